import PyProof.Rows.All
import Wide.All
import OpenK.AllK
import Wide.FinOn
import Lean
import PyProof.EqAt
import PyProof.EqKinds
import PyProof.TupleCall
import PyProof.StrLawsTight
import PyProof.StrLawsChain
import PyProof.StrLawsOcc
import PyProof.Cells
import OpenK.KLine
import PyProof.SumAny
import PyProof.Rows.SortShell
import PyProof.DictItems
import PyProof.DictWalks
import KE.KRevIter
import PyProof.JoinWalk
import PyProof.CollectIter
import PyProof.StrLawsIn
import PyProof.Rows.SetFrom
import PyProof.CollectWalk
import PyProof.Rows.SortWalk
import KE.KSortTup
import KE.KxPercent
import PyProof.TupleOfGen
import KE.KDictList
import PyProof.P3In
import PyProof.NeData
import PyProof.FactsAll.tuple_2
import KE.KTryMore
import PyProof.ExcArgsOwn
import PyProof.ExcAttrAll.ValueError
import PyProof.ExcBaseAll.ValueError
import PyProof.InstStoreFacts
import PySem.Challenge.RW_unstruck_k05_texts_refused
set_option bootstrap.genMatcherCode false
noncomputable section
set_option genSizeOf false
set_option genSizeOfSpec false
local macro_rules | `(tactic| omega) => `(tactic| first | lia | omega (config := {}))
set_option Elab.async false
set_option linter.all false
set_option maxRecDepth 100000
def A8:=@PySem.wpAny_bind
def BA:=@PySem.Heap.get?_push_of_some
def BB:=@Bool.and_eq_true
def BC:=@Bool.false_ne_true
def BD:=@Nat.le_refl
def BE:=@PySem.Heap.lt_size
def BF:=@List.mem_cons_of_mem
def BG:=@PySem.wpAny_pure
def BH:=@List.size_toArray
def BI:=@if_neg
def BJ:=@List.length_map
def BK:=@if_pos
def BL:=@List.length_append
def BM:=@List.getElem?_eq_some_iff
def BN:=@List.mem_cons_self
def BO:=@Option.bind_some
def BP:=@List.mem_cons
def BQ:=@PySem.Str.length_append
def BR:=@PySem.Heap.get?_push_size
def BS:=@List.length_cons
def BU:=@List.getElem?_eq_getElem
def BV:=@Nat.lt_of_lt_of_le
def BW:=@LawfulBEq.eq_of_beq
def BX:=@Nat.ne_of_lt
def BY:=@PySem.mem_of_lookup
def BZ:=@List.map_cons
def Ba:=@Nat.le_trans
def Bb:=@List.lookup_cons
def Bc:=@Option.some.inj
def Be:=@Nat.zero_le
def Bg:=@List.getElem?_set_ne
def Bh:=@decide_eq_false
def Bi:=@List.getElem?_map
def Bj:=@List.getD_eq_getElem?_getD
def Bk:=@List.mem_append_right
def Bl:=@List.all_eq_true
def Bo:=@List.mem_of_getElem?
def Bp:=@List.mem_singleton
def Bq:=@List.mem_append
def Br:=@Array.length_toList
def Bs:=@of_decide_eq_true
def Bt:=@Array.getD_eq_getD_getElem?
def Bu:=@PyProof.Rows.slot_tuple_getitem
def Bv:=@List.getElem?_set_self
def Bw:=@PySem.sizeLine_eq
def Bx:=@Bool.eq_false_iff
def By:=@PySem.Heap.get?_update_other
def Bz:=@List.append_nil
def B2:=@PySem.wpAny_holding
def B3:=@PySem.wpAny_truthy_bool
def B4:=@congrArg
def B5:=@PySem.wpAny_mono
def B6:=@PySem.wpAny_Call_Name_kw
def B7:=@beq_iff_eq
def B8:=@Option.map_some
def B9:=@PyProof.Rows.callWith_type1
def CA:=@Nat.lt_irrefl
def CB:=@decide_eq_true
def CC:=@List.lookup_append
def CD:=@Classical.byContradiction
def CG:=@List.nodup_cons
def CH:=@Bool.or_eq_true
def CI:=@List.mem_map
def CJ:=@Option.isSome_iff_exists
def CK:=@if_true
def CL:=@PySem.W.kia_one
def CM:=@List.not_mem_nil
def CN:=@List.length_take
def CO:=@List.length_drop
def CP:=@List.getElem?_cons_succ
def CQ:=@Ne.symm
def CS:=@Nat.lt_trans
def CT:=@List.length_nil
def CU:=@List.length_replicate
def CV:=@PySem.wpAny_passesOwn
def CW:=@Array.getElem?_eq_some_iff
def CY:=@decide_eq_decide
def CZ:=@Nat.le_of_lt
def Ca:=@List.map_nil
def Cb:=@PySem.wpAny_newObj_type
def Cc:=@List.all_cons
def Cd:=@PyProof.Rows.boot_isinstance
def Ce:=@List.find?_cons
def Cg:=@Bool.eq_iff_iff
def Ch:=@List.contains_cons
def Ci:=@Int.emod_lt_of_pos
def Cj:=@decide_eq_true_eq
def Ck:=@Bool.not_eq_true'
def Cm:=@PySem.wpAny_loadPart'
def Cn:=@PyProof.Rows.mirror_perm
def Co:=@PySem.wpAny_getItem_str_slice
def Cp:=@Bool.beq_eq_decide_eq
def Cq:=@List.any_cons
def Cr:=@PySem.wpAny_loadPart_at
def Cs:=@PySem.codeAny_mono
def Cu:=@Nat.le_succ
def Cv:=@List.mem_of_mem_drop
def Cw:=@List.mem_append_left
def Cy:=@List.length_set
def Cz:=@Int.emod_nonneg
def C2:=@Array.Perm.refl
def C3:=@PySem.Heap.get?_update_self
def C4:=@List.replicate_succ
def C5:=@List.map_congr_left
def C6:=@PySem.wpAny_call
def C7:=@Nat.ne_of_gt
def C8:=@if_false
def C9:=@PySem.wpAny_field
def DA:=@PySem.Heap.get?_none_of_le
def DB:=@PySem.F.excBase_ValueError
def DC:=@List.mem_range
def DD:=@List.exists_cons_of_ne_nil
def DE:=@Bool.false_and
def DF:=@PySem.wpAny_execs_nil
def DG:=@PySem.PassesOwn.never
def DH:=@List.getElem?_append_left
def DI:=@List.length_range
def DJ:=@PySem.F.args_tuple_add_2
def DK:=@PySem.W.mg_of
namespace L2
open PySem PySem.Spec PyProof.Rows
noncomputable abbrev aq:=Sum Int Str
noncomputable def iI:aq->Value->Bool
 | .inl k,v=>Value.isInt k v
 | .inr x,v=>Value.isStrOf x v
noncomputable def keyH(w:World):aq->Int
 | .inl k=>hashInt k
 | .inr x=>hashStr w x
theorem ac:∀{k:aq}{v:Value},iI k v=true->(∃i t,k=Sum.inl i/\v=Value.int i t)\/(∃x t,k=Sum.inr x/\v=Value.str x t)
 | .inl i,v,h=>by
  obtain⟨t,e⟩:=Value.isInt_shape (k:=i) (v:=v) h;exact .inl ⟨i,t,rfl,e⟩
 | .inr x,v,h=>by
  obtain⟨t,e⟩:=Value.isStrOf_shape (x:=x) (v:=v) h;exact .inr ⟨x,t,rfl,e⟩
theorem oX(i:Int)(t:Tok):iI (.inl i) (.int i t)=true:=by simp[iI,Value.isInt]
theorem oW(x:Str)(t:Tok):iI (.inr x) (.str x t)=true:=by simp[iI,Value.isStrOf]
theorem xu(a b:Int):decide ((Sum.inl a:aq)=Sum.inl b)=(a==b):=by
 by_cases e:a=b
 ·subst e;simp
 ·have h:¬(Sum.inl a:aq)=Sum.inl b:=fun q=>e (Sum.inl.inj q)
  rw[Bh h];exact(beq_eq_false_iff_ne.mpr e).symm
theorem xq(a b:Str):decide ((Sum.inr a:aq)=Sum.inr b)=decide (a=b):=by
 by_cases e:a=b
 ·subst e;simp
 ·have h:¬(Sum.inr a:aq)=Sum.inr b:=fun q=>e (Sum.inr.inj q)
  rw[Bh h,Bh e]
theorem xt(a:Int)(b:Str):decide ((Sum.inl a:aq)=Sum.inr b)=false:=Bh (fun q=>nomatch q)
theorem xr(a:Str)(b:Int):decide ((Sum.inr a:aq)=Sum.inl b)=false:=Bh (fun q=>nomatch q)
noncomputable def bA(prog:Program)(w:World):PySem.KeyKind prog w aq where
 is:=iI
 hash:=keyH w
 inj:=fun v a b ha hb=>by
  rcases ac ha with⟨i,t,rfl,rfl⟩|⟨x,t,rfl,rfl⟩
  ·rcases ac hb with⟨j,u,rfl,e⟩|⟨y,u,rfl,e⟩
   ·injection e with e1 _;rw[e1]
   ·exact nomatch e
  ·rcases ac hb with⟨j,u,rfl,e⟩|⟨y,u,rfl,e⟩
   ·exact nomatch e
   ·injection e with e1 _;rw[e1]
 byValue:=fun k v h=>by
  rcases ac h with⟨i,t,rfl,rfl⟩|⟨x,t,rfl,rfl⟩<;>rfl
 pyHash:=fun hv h=>by
  rcases ac hv with⟨i,t,rfl,rfl⟩|⟨x,t,rfl,rfl⟩
  ·exact wpAny_pyHash_int h
  ·exact wpAny_pyHash_str h
 eqBool:=fun hu hv h=>by
  rcases ac hu with⟨i,t,rfl,rfl⟩|⟨x,t,rfl,rfl⟩
  ·rcases ac hv with⟨j,u,rfl,rfl⟩|⟨y,u,rfl,rfl⟩
   ·rw[xu]at h;exact wpAny_eqBool_int h
   ·rw[xt]at h;exact SeqAt.EqAt.int_str i t y u _ _ _ _ h
  ·rcases ac hv with⟨j,u,rfl,rfl⟩|⟨y,u,rfl,rfl⟩
   ·rw[xr]at h;exact SeqAt.EqAt.str_int x t j u _ _ _ _ h
   ·rw[xq]at h;exact wpAny_eqBool_str h
 «strs»:=fun k x t v h=>by
  rcases ac h with⟨i,u,rfl,e⟩|⟨y,u,rfl,e⟩
  ·exact nomatch e
  ·injection e with e1 _
   subst e1;cases v<;>rfl
theorem kG(prog:Program)(w:World)(i:Int)(t:Tok):(bA prog w).is (.inl i) (.int i t)=true:=oX i t
theorem kF(prog:Program)(w:World)(x:Str)(t:Tok):(bA prog w).is (.inr x) (.str x t)=true:=oW x t
inductive V where
 | non|bl (b:Bool)|int (i:Int)|str (x:Str)|byt (b:Array UInt8)|flt (b:UInt64)|ref (a:Addr)|ty (n:String)
 deriving DecidableEq
noncomputable def RelV:V->Value->Prop
 | .non,u=>u=Value.none
 | .bl b,u=>u=Value.bool b
 | .int i,u=>∃t,u=Value.int i t
 | .str x,u=>∃t,u=Value.str x t
 | .byt b,u=>∃t,u=Value.bytes b t
 | .flt b,u=>∃t,u=Value.float b t
 | .ref a,u=>u=Value.ref a
 | .ty n,u=>u=Value.type n
noncomputable abbrev aI:List V->List Value->Prop:=Paired RelV
theorem aI.length{xs:List V}{us:List Value}(r:aI xs us):xs.length=us.length:=Paired.length r
theorem aI.get:∀{xs:List V}{us:List Value}{i:Nat}{x:V},aI xs us->xs[i]? =some x->∃u,us[i]? =some u/\RelV x u
 | _,_,_,_,.nil,e=>by simp at e
 | _,_,0,_,.cons r _,e=>by simp at e;subst e;exact⟨_,rfl,r⟩
 | _,_,i+1,x,.cons _ t,e=>by
  obtain⟨u,h1,h2⟩:=aI.get (i:=i) (x:=x) t (by simpa using e);exact⟨u,by simpa using h1,h2⟩
theorem aI.set{x:V}{u:Value}(r:RelV x u):∀{xs:List V}{us:List Value}(i:Nat),aI xs us->aI (xs.set i x) (us.set i u)
 | _,_,_,.nil=>.nil
 | _,_,0,.cons _ t=>.cons r t
 | _,_,i+1,.cons q t=>.cons q (aI.set r i t)
theorem aI.append{xs ys:List V}{us ws:List Value}(h:aI xs us)(k:aI ys ws):aI (xs++ys) (us++ws):=by
 induction h with
 | nil=>exact k
 | cons r t ih=>exact .cons r ih
theorem aI.take:∀{xs:List V}{us:List Value}(n:Nat),aI xs us->aI (xs.take n) (us.take n)
 | _,_,0,_=>.nil
 | _,_,_+1,.nil=>.nil
 | _,_,n+1,.cons r t=>.cons r (aI.take n t)
theorem aI.drop:∀{xs:List V}{us:List Value}(n:Nat),aI xs us->aI (xs.drop n) (us.drop n)
 | _,_,0,r=>r
 | _,_,_+1,.nil=>.nil
 | _,_,n+1,.cons _ t=>aI.drop n t
noncomputable def eZ:Option V->Option Value->Prop
 | some v,some u=>RelV v u
 | none,none=>True
 | _,_=>False
noncomputable def KV{κ:Type}:List (κ×V)->List (κ×Value)->Prop:=Paired fun(p:κ×V)(q:κ×Value)=>p.1=q.1/\RelV p.2 q.2
noncomputable def kV:aq->V
 | .inl i=>.int i
 | .inr x=>.str x
inductive HO where
 | lst (xs:List V)
 | tup (xs:List V)
 | dK (kvs:List (aq×V))|dT (kvs:List (List aq×V))
 | set (S:Int->Bool) (n:Nat)
 | ins (C dx:Addr) (fs:List (Str×V))
 | own (x:Addr)
 | xd (fs:List (Str×V))
 | met (f x:Addr)
 | rng (lo hi:Int)
 | frz (o:Obj) (u:HO)
 | tbl (ps:Array Value)
 | ext (φ:Heap->Prop)
noncomputable abbrev Hp:=Addr->Option HO
noncomputable def upd(H:Hp)(a:Addr)(o:HO):Hp:=fun b=>if b=a then some o else H b
theorem aD{H:Hp}{a:Addr}{o:HO}:upd H a o a=some o:=by unfold upd;rw[BK rfl]
theorem aE{H:Hp}{a b:Addr}{o:HO}(h:b≠a):upd H a o b=H b:=by unfold upd;rw[BI h]
theorem mU{H:Hp}{a:Addr}{o u:HO}:upd (upd H a o) a u=upd H a u:=by
 funext b;unfold upd;split<;>rfl
theorem aJ{H:Hp}{a b:Addr}{o:HO}(h:H a=some o)(h' :H b=none):a≠b:=by
 intro e;subst e;rw[h]at h';cases h'
noncomputable def cw(h:Heap)(a:Addr)(its:Array Value):Prop:=∃o,h.get? a=some o/\o.cls=.type "tuple"/\∃n,o.data=.seq its n/\o.dict=none
theorem cw.tup{h:Heap}{a:Addr}{its:Array Value}(x:cw h a its):IsTup h a its:=let⟨o,e,c,n,d,_⟩:=x;⟨o,e,c,n,d⟩
theorem cw.new(h:Heap)(its:Array Value):cw (h.push {cls:=.type "tuple",data:=.seq its}) h.objs.size its:=⟨_,BR _ rfl,rfl,_,rfl,rfl⟩
section
variable(P:Program)(w:World)
noncomputable def aY(H:Hp)(h:Heap)(a:Addr):HO->Prop
 | .lst xs=>xs.length<=sizeLine/\∃(its:List Value)(n:Nat),aI xs its/\h.get? a=some {cls:=.type "list",data:=.seq its.toArray n}
 | .tup xs=>xs.length<=sizeLine/\∃its:List Value,aI xs its/\cw h a its.toArray
 | .dK kvs=>kvs.length<=sizeLine/\(a==sysModules)=false/\∃vs,KV kvs vs/\h.DictOf (bA P w) a vs
 | .dT kvs=>kvs.length<=sizeLine/\(a==sysModules)=false/\∃xs:List (List aq×Addr×Value),
   Paired (fun(p:List aq×V) (q:List aq×Addr×Value)=>p.1=q.1/\H q.2.1=some (.tup (p.1.map kV))/\RelV p.2 q.2.2) kvs xs /\
   ∃o es ep,h.get? a=some o/\o.ExactDict/\o.data=.dict es ep/\es.toList=xs.map (entryOfKey (tupleKind (bA P w)))/\(xs.map (·.1)).Nodup
 | .set S n=>h.SetOf (intKind P w) a S n
 | .ins C dx fs=>H dx=some (.own a)/\fs.length<=1000/\dx≠a/\h.get? a=some (W.instObj C dx) /\
   ∃mA,h.Ns1 dx mA/\(∀f,eZ (fs.lookup f) (mA f))/\PySem.Within mA (fs.map (·.1))
 | .own _=>∃o,h.get? a=some o
 | .xd fs=>∃mA,h.Ns1 a mA/\∀f,eZ (fs.lookup f) (mA f)
 | .rng lo hi=>∃t u v,h.get? a=some {cls:=.type "range",data:=.fields #[.int lo t,.int hi u,.int 1 v]}
 | .frz o u=>h.get? a=some o/\aY H h a u
 | .tbl ps=>h.get? a=some {cls:=.none,data:=.fields ps}
 | .met f x=>h.get? a=some (W.methodObj (.ref f) (.ref x))
 | .ext φ=>φ h/\(∃o,h.get? a=some o)/\∀h1 h2:Heap,φ h1->(∀o,h1.get? a=some o->h2.get? a=some o)->φ h2
noncomputable def cS(H:Hp)(h:Heap):Prop:=∀a o,H a=some o->aY P w H h a o
end
section
variable{P:Program}{w:World}{H H' :Hp}{h h' :Heap}{a:Addr}{o:HO}
theorem aY.lt(x:aY P w H h a o):a<h.objs.size:=by
 cases o with
 | lst xs=>obtain⟨_,_,_,_,e⟩:=x;exact BE e
 | tup xs=>obtain⟨_,_,_,p⟩:=x;exact p.tup.lt
 | dK kvs=>obtain⟨_,_,_,_,o,_,_,e,_⟩:=x;exact BE e
 | dT kvs=>obtain⟨_,_,_,_,o,_,_,e,_⟩:=x;exact BE e
 | set S n=>obtain⟨o,_,_,_,e,_⟩:=x;exact BE e
 | ins C dx fs=>obtain⟨_,_,_,e,_⟩:=x;exact BE e
 | own y=>obtain⟨_,e⟩:=x;exact BE e
 | xd fs=>obtain⟨_,⟨_,_,_,e,_⟩,_⟩:=x;exact BE e
 | rng lo hi=>obtain⟨_,_,_,e⟩:=x;exact BE e
 | frz ob u=>obtain⟨e,_⟩:=x;exact BE e
 | tbl ps=>exact BE (show h.get? a=some _ from x)
 | met f y=>exact BE (show h.get? a=some _ from x)
 | ext φ=>obtain⟨_,⟨_,e⟩,_⟩:=x;exact BE e
theorem Paired.mapP{α β:Type}{F G:α->β->Prop}{l₁:List α}{l₂:List β}(h:Paired F l₁ l₂)(f:∀a b,F a b->G a b):Paired G l₁ l₂:=by
 induction h with
 | nil=>exact .nil
 | cons r t ih=>exact .cons (f _ _ r) ih
theorem aY.stay(x:aY P w H h a o)(k:∀b u,(b=a\/H b=some (.own a))->h.get? b=some u->h'.get? b=some u)
  (ho:∀b,H b=some (.own a)->H' b=some (.own a)) (ht:∀b xs,H b=some (.tup xs)->H' b=some (.tup xs)):aY P w H' h' a o:=by
 induction o with
 | lst xs=>obtain⟨z,its,n,r,e⟩:=x;exact⟨z,its,n,r,k _ _ (.inl rfl) e⟩
 | tup xs=>obtain⟨z,its,r,ob,e,c⟩:=x;exact⟨z,its,r,ob,k _ _ (.inl rfl) e,c⟩
 | dK kvs=>obtain⟨z,y,vs,r,ob,es,ep,e,c⟩:=x;exact⟨z,y,vs,r,ob,es,ep,k _ _ (.inl rfl) e,c⟩
 | dT kvs =>
  obtain⟨z,y,xs,r,ob,es,ep,e,c⟩:=x;exact⟨z,y,xs,Paired.mapP r fun p q z=>⟨z.1,ht _ _ z.2.1,z.2.2⟩,ob,es,ep,k _ _ (.inl rfl) e,c⟩
 | set S n=>obtain⟨ob,es,ep,t,e,c⟩:=x;exact⟨ob,es,ep,t,k _ _ (.inl rfl) e,c⟩
 | ins C dx fs =>
  obtain⟨d,z,ne,e,mA,⟨od,es,ep,e2,c⟩,r⟩:=x;exact⟨ho _ d,z,ne,k _ _ (.inl rfl) e,mA,⟨od,es,ep,k _ _ (.inr d) e2,c⟩,r⟩
 | own y=>obtain⟨ob,e⟩:=x;exact⟨ob,k _ _ (.inl rfl) e⟩
 | xd fs=>obtain⟨mA,⟨od,es,ep,e,c⟩,r⟩:=x;exact⟨mA,⟨od,es,ep,k _ _ (.inl rfl) e,c⟩,r⟩
 | rng lo hi=>obtain⟨t,u,v,e⟩:=x;exact⟨t,u,v,k _ _ (.inl rfl) e⟩
 | frz ob u ih=>obtain⟨e,q⟩:=x;exact⟨k _ _ (.inl rfl) e,ih q⟩
 | tbl ps =>
  have e:h.get? a=some {cls:=.none,data:=.fields ps}:=x;show h'.get? a=some {cls:=.none,data:=.fields ps};exact k a _ (.inl rfl) e
 | met f y =>
  have e:h.get? a=some (W.methodObj (.ref f) (.ref y)):=x;show h'.get? a=some (W.methodObj (.ref f) (.ref y));exact k a _ (.inl rfl) e
 | ext φ=>obtain⟨p,⟨o,e⟩,st⟩:=x;exact⟨st _ _ p fun o q=>k _ _ (.inl rfl) q,⟨o,k _ _ (.inl rfl) e⟩,st⟩
theorem cS.lt(x:cS P w H h)(e:H a=some o):a<h.objs.size:=(x a o e).lt
theorem cS.fresh(x:cS P w H h)(e:h.objs.size<=a):H a=none:=by
 cases q:H a with
 | none=>rfl
 | some u=>exact absurd (BV (x.lt q) e) (CA _)
theorem cS.kept(x:cS P w H h)(k:∀b u,h.get? b=some u->h'.get? b=some u):cS P w H h' :=fun a o e =>
 (x a o e).stay (fun b u _ q=>k b u q) (fun _ q=>q) fun _ _ q=>q
theorem cS.laid(x:cS P w H h)(k:∀b u,h.get? b=some u->h'.get? b=some u)(hp:h.objs.size<=a)(new:aY P w (upd H a o) h' a o):cS P w (upd H a o) h' :=fun b u e=>by
 have hn:=x.fresh hp
 by_cases hb:b=a
 ·subst hb;rw[aD]at e;cases e;exact new
 ·rw[aE hb]at e
  exact(x b u e).stay (fun c v _ q=>k c v q) (fun c q=>by rw[aE (aJ q hn)];exact q) fun c xs q=>by rw[aE (aJ q hn)];exact q
end
noncomputable def Rd(H:Hp)(a:Addr)(u:HO):Prop:=H a=some u\/∃o,H a=some (.frz o u)
theorem Rd.ok{P:Program}{w:World}{H:Hp}{h:Heap}{a:Addr}{u:HO}(r:Rd H a u)(x:cS P w H h):aY P w H h a u:=by
 rcases r with r|⟨o,r⟩
 ·exact x a u r
 ·obtain⟨_,q⟩:=x a _ r
  exact q
noncomputable def zB:Option HO->Prop
 | some (.lst _)=>True
 | some (.dK _)=>True
 | some (.dT _)=>True
 | some (.set _ _)=>True
 | some (.ins _ _ _)=>True
 | some (.ext _)=>True
 | _=>False
section
variable{P:Program}{w:World}{H:Hp}{h h' :Heap}{x e:Addr}{o' :HO}
theorem cS.write(ok:cS P w H h)(mu:zB (H x))(he:e=x\/H e=some (.own x))(k:∀b u,b≠e->h.get? b=some u->h'.get? b=some u)(heo:∃u,h'.get? e=some u)
  (new:aY P w (upd H x o') h' x o'):cS P w (upd H x o') h' :=fun b u q=>by
 have nown:∀c y,H c=some (.own y)->c≠x:=fun c y r z=>by subst z;rw[r]at mu;exact mu
 have ntup:∀c xs,H c=some (.tup xs)->c≠x:=fun c xs r z=>by subst z;rw[r]at mu;exact mu
 by_cases hb:b=x
 ·subst hb;rw[aD]at q;cases q;exact new
 ·rw[aE hb]at q
  by_cases hbe:b=e
  ·have q' :H b=some (.own x):=by
    rcases he with z|z
    ·exact absurd (hbe.trans z) hb
    ·rw[hbe];exact z
   rw[q]at q';cases q';obtain⟨v,hv⟩:=heo;exact⟨v,by rw[hbe];exact hv⟩
  ·refine(ok b u q).stay (fun c v hc r=>k c v ?_ r) (fun c r=>by rw[aE (nown c b r)];exact r) fun c xs r=>by rw[aE (ntup c xs r)];exact r
   rcases hc with rfl|hc
   ·exact hbe
   ·rintro rfl
    rcases he with z|z
    ·exact nown c b hc z
    ·rw[hc]at z;cases z;exact hb rfl
end
structure Un(fs ex:List Addr)(H H' :Hp)(h h' :Heap):Prop where
 keep:∀b o,h.get? b=some o->H b=none->b∉fs->b∉ex->h'.get? b=some o
 slot:∀b o,h.get? b=some o->H b=none->b∈fs->b∉ex->∃sl,h'.get? b=some {o with slots:=sl}
 free:∀b o,h.get? b=some o->H b=none->b∉ex->H' b=none
 there:∀b o,h.get? b=some o->b∉ex->∃o',h'.get? b=some o'
 tups:∀b xs,H b=some (.tup xs)->H' b=some (.tup xs)
 frzs:∀b o u,H b=some (.frz o u)->H' b=some (.frz o u)
 tbls:∀b ps,H b=some (.tbl ps)->∃more,H' b=some (.tbl (ps++more))
section
variable{fs fs' ex ex' :List Addr}{H H1 H2:Hp}{h h1 h2 h' :Heap}{a x e:Addr}{o:HO}
theorem Un.any(u:Un fs ex H H1 h h1){b:Addr}{ob:Obj}(q:h.get? b=some ob)(n:H b=none)(hx:b∉ex):∃sl,h1.get? b=some {ob with slots:=sl}:=by
 by_cases hb:b∈fs
 ·exact u.slot b ob q n hb hx
 ·exact⟨ob.slots,u.keep b ob q n hb hx⟩
theorem Un.kept(k:∀b u,h.get? b=some u->h'.get? b=some u):Un fs ex H H h h' :=
 ⟨fun b ob q _ _ _=>k b ob q,fun b ob q _ _ _=>⟨ob.slots,k b ob q⟩,fun _ _ _ n _=>n,fun b ob q _=>⟨ob,k b ob q⟩,fun _ _ q=>q,fun _ _ _ q=>q,fun _ ps q=>⟨#[],by rw[q];simp⟩⟩
theorem Un.refl:Un fs ex H H h h:=Un.kept fun _ _ q=>q
theorem Un.laid(k:∀b u,h.get? b=some u->h'.get? b=some u)(hp:h.objs.size<=a)(hn:H a=none):Un fs ex H (upd H a o) h h' where
 keep:=fun b u q _ _ _=>k b u q
 slot:=fun b u q _ _ _=>⟨u.slots,k b u q⟩
 free:=fun b u q n _=>by rw[aE (BX (BV (BE q) hp))];exact n
 there:=fun b u q _=>⟨u,k b u q⟩
 tups:=fun b xs q=>by rw[aE (aJ q hn)];exact q
 frzs:=fun b u xs q=>by rw[aE (aJ q hn)];exact q
 tbls:=fun b ps q=>⟨#[],by rw[aE (aJ q hn),q];simp⟩
theorem Un.write(mu:zB (H x))(he:e=x\/H e=some (.own x))(k:∀b u,b≠e->h.get? b=some u->h'.get? b=some u)(heo:∃u,h'.get? e=some u):Un fs ex H (upd H x o) h h' :=by
 have hx:∀b,H b=none->b≠x:=fun b n z=>by subst z;rw[n]at mu;exact mu
 have hb:∀b,H b=none->b≠e:=fun b n z=>by
  subst z
  rcases he with r|r
  ·exact hx b n r
  ·rw[n]at r;cases r
 have hm:∀b u,H b=some u->¬zB (some u)->b≠x:=fun b u q nm z=>by subst z;rw[q]at mu;exact nm mu
 refine⟨fun b u q n _ _=>k b u (hb b n) q,fun b u q n _ _=>⟨u.slots,k b u (hb b n) q⟩,fun b u q n _=>by rw[aE (hx b n)];exact n,fun b u q _=> ?_,
  fun b xs q=>by rw[aE (hm b _ q fun z=>z)];exact q,fun b u xs q=>by rw[aE (hm b _ q fun z=>z)];exact q,fun b ps q=>⟨#[],by rw[aE (hm b _ q fun z=>z),q];simp⟩⟩
 by_cases hbe:b=e
 ·subst hbe;exact heo
 ·exact⟨u,k b u hbe q⟩
end
noncomputable def trk(h:Heap)(H:Hp):List Addr:=(List.range h.objs.size).filter fun a=>(H a).isSome
noncomputable def jE(h:Heap)(H:Hp):Heap:=W.hideAll h (trk h H)
theorem og(h:Heap)(H:Hp):(jE h H).objs.size=h.objs.size:=W.hideAll_size _ _
theorem rZ{h:Heap}{H:Hp}{b:Addr}{o:Obj}(e:h.get? b=some o)(n:H b=none):(jE h H).get? b=some o :=
 W.hideAll_get _ e fun hm=>by
  have q:(H b).isSome=true:=(List.mem_filter.mp hm).2;rw[n]at q;simp at q
theorem uk{h:Heap}{H:Hp}{b:Addr}{o:Obj}(e:(jE h H).get? b=some o):h.get? b=some o/\H b=none:=by
 have e' :h.get? b=some o:=W.of_hideAll (trk h H) e;refine⟨e',?_⟩;cases q:H b with
 | none=>rfl
 | some x =>
  have hm:b∈trk h H:=List.mem_filter.mpr ⟨DC.mpr (BE e'),by simp[q]⟩;have z:(jE h H).get? b=none:=W.hideAll_none (trk h H) hm;rw[z]at e;cases e
noncomputable def vj(g h:Heap)(L:Addr):List (Addr×Obj):=(List.range h.objs.size).filterMap fun a=>if a=L\/(g.get? a).isSome=true then none else(h.get? a).map fun o=>(a,o)
noncomputable def aO(g h:Heap)(L d:Addr):List (Addr×Obj):=(vj g h L).filter fun p=>decide (p.1≠d)
structure Mod(K:W.Frag)(mg:Str->Option Value)(base:Heap):Prop where
 kin:K.In base
 glob:base.Ns mainGlobals mg
 blt:∃mb,base.Ns builtinsNs mb/\∀x:Str,x≠"__name__"->mb x=bootBuiltins x
 nolimit:base.NoLimit
structure Cx where
 prog:Program
 w:World
 K:W.Frag
 mg:Str->Option Value
 base:Heap
 A:Around
 N:List Str
 s₀:Shared
 H₀:Hp
 env:Env
 outer:List Env
 stack:List Env
 ex:List Addr
 fn:Str->Bool
 calm:Bool
 pn:List (Addr×Obj)
 xe:Value->Shared->Prop
noncomputable def lC(l:List Env):List Addr:=l.filterMap (·.frame)
noncomputable abbrev Cx.fs(X:Cx):List Addr:=lC X.outer
noncomputable def Au(sc:Scope)(x:Str):Prop:=sc.names.lookup x=some .local\/sc.names.lookup x=some .cell\/sc.names.lookup x=some .free
noncomputable def Loc(sc:Scope)(x:Str):Prop:=sc.names.lookup x=some .local\/sc.names.lookup x=some .cell
noncomputable def Look(env:Env)(h:Heap)(m:Str->Option Value)(x:Str)(u:Value):Prop :=
 (env.kindOf x=some .local/\m x=some u)\/((env.kindOf x=some .cell\/env.kindOf x=some .free)/\∃c,env.cells.lookup x=some c/\h.IsCell c (some u))
structure Cx.Ok(X:Cx):Prop where
 mod:Mod X.K X.mg X.base
 kind:X.env.scope.kind=.function
 glob:X.env.globals=mainGlobals
 blt:X.env.builtins=builtinsNs
 above:X.s₀.heap.objs.size<=X.env.locals
 inj:∀x y c,X.env.cells.lookup x=some c->X.env.cells.lookup y=some c->x=y
 has:∀x,(X.env.kindOf x=some .cell\/X.env.kindOf x=some .free)->∃c,X.env.cells.lookup x=some c
 cab:∀x c,X.fn x=true->X.env.cells.lookup x=some c->X.s₀.heap.objs.size<=c
 hd:X.calm=true->X.A.handled=none
 frames:X.A.frames=some X.stack
 stk:X.stack=X.outer\/(X.stack=X.env::X.outer/\X.env.frame=some X.env.locals)
 exf:∀b∈X.ex,b≠X.env.locals/\∀x c,X.env.cells.lookup x=some c->c≠b
 bs:∀b o,X.base.get? b=some o->X.s₀.heap.get? b=some o/\X.H₀ b=none
 bsz:X.base.objs.size<=X.s₀.heap.objs.size
 noex:∀b o,X.base.get? b=some o->b∉X.ex
 exfs:∀b∈X.ex,b∉X.fs
 funs:X.s₀.heap.FunFrames X.base X.outer
 frf:∀b∈X.fs,X.H₀ b=none
structure Inv(X:Cx)(pins:List (Addr×Obj))(σ:List (Option V))(H:Hp)(s:Shared):Prop where
 ok:X.Ok
 os:s.os=X.s₀.os
 bare:AllBare s.gens
 base:Un X.fs X.ex X.H₀ H X.s₀.heap s.heap
 loc:∃m,s.heap.Ns X.env.locals m/\∀(i:Nat)(x:Str)(v:V),X.N[i]? =some x->σ[i]? =some (some v)->Au X.env.scope x->∃u,RelV v u/\Look X.env s.heap m x u
 cell:∀x c,X.env.cells.lookup x=some c->∃v,s.heap.IsCell c v
 free:H X.env.locals=none
 freeC:∀x c,X.env.cells.lookup x=some c->H c=none
 pin:∀p∈X.pn++pins,s.heap.get? p.1=some p.2/\H p.1=none/\p.1≠X.env.locals/\p.1∉X.fs/\∀v,p.2.data≠.cell v
 hok:cS X.prog X.w H s.heap
 len:σ.length=X.N.length
section
variable{X:Cx}{pins:List (Addr×Obj)}{σ:List (Option V)}{H H' :Hp}{s:Shared}{h' :Heap}
theorem Cx.Ok.nofr(ok:X.Ok){b:Addr}{o:Obj}(e:X.base.get? b=some o):b∉X.fs:=fun hb=>by
 have:=(ok.funs.mem hb).1;rw[e]at this;cases this
theorem Inv.bs(I:Inv X pins σ H s):∀b o,X.base.get? b=some o->s.heap.get? b=some o/\H b=none:=fun b o e =>
 ⟨I.base.keep b o (I.ok.bs b o e).1 (I.ok.bs b o e).2 (I.ok.nofr e) (I.ok.noex b o e),I.base.free b o (I.ok.bs b o e).1 (I.ok.bs b o e).2 (I.ok.noex b o e)⟩
theorem Inv.bk(I:Inv X pins σ H s):∀b o,X.base.get? b=some o->s.heap.get? b=some o:=fun b o e=>(I.bs b o e).1
theorem Inv.mod(I:Inv X pins σ H s):Mod X.K X.mg X.base:=I.ok.mod
theorem Inv.kIn(I:Inv X pins σ H s):X.K.In s.heap:=I.ok.mod.kin.keeps I.bk
theorem Inv.fr(I:Inv X pins σ H s):∃m,Fr X.base X.env.locals s.heap m :=
 let⟨m,hn,_⟩:=I.loc
 ⟨m,hn,I.bk,Ba I.ok.bsz I.ok.above⟩
theorem Inv.lt(I:Inv X pins σ H s):X.env.locals<s.heap.objs.size:=let⟨_,hn,_⟩:=I.loc;hn.lt
theorem Inv.sz(I:Inv X pins σ H s):X.s₀.heap.objs.size<=s.heap.objs.size:=Ba I.ok.above (CZ I.lt)
theorem Inv.nofs(I:Inv X pins σ H s){a:Addr}(h:s.heap.objs.size<=a):a∉X.fs:=fun hb=>by
 obtain⟨_,o,ho,_⟩:=I.ok.funs.mem hb;exact absurd (BV (BE ho) (Ba I.sz h)) (CA _)
theorem Inv.cne(I:Inv X pins σ H s):∀x c,X.env.cells.lookup x=some c->c≠X.env.locals:=fun x c e z=>by
 obtain⟨v,o,ho,hd⟩:=I.cell x c e;obtain⟨m,⟨o',es,ep,ho',hd',_⟩,_⟩:=I.loc;rw[z,ho']at ho;cases ho;rw[hd']at hd;cases hd
theorem Inv.funs(I:Inv X pins σ H s):s.heap.FunFrames X.base X.outer:=by
 have all:∀(l:List Env),(∀b∈lC l,b∈X.fs)->X.s₀.heap.FunFrames X.base l->s.heap.FunFrames X.base l:=by
  intro l
  induction l with
  | nil=>intro _ _;trivial
  | cons env r ih =>
   intro hs hl;obtain⟨hk,⟨L,o,hf,hn,ho,hd⟩,hr⟩:=hl;have hL:L∈X.fs:=hs L (by unfold lC;rw[List.filterMap_cons,hf];exact BN);obtain⟨sl,e⟩:=I.base.slot L o ho (I.ok.frf L hL) hL fun z=>I.ok.exfs L z hL;exact⟨hk,⟨L,_,hf,hn,e,hd⟩,ih (fun b hb=>hs b (by unfold lC;rw[List.filterMap_cons,hf];exact BF _ hb)) hr⟩
 exact all X.outer (fun _ hb=>hb) I.ok.funs
theorem Inv.stack(I:Inv X pins σ H s):s.heap.FunFrames X.base X.stack:=by
 rcases I.ok.stk with e|⟨e,hf⟩
 ·rw[e];exact I.funs
 ·rw[e]
  obtain⟨m,hn,_⟩:=I.loc;refine .cons (by rw[I.ok.kind];decide) hf hn ?_ I.funs;exact DA (Ba I.ok.bsz I.ok.above)
theorem Inv.stkSub(I:Inv X pins σ H s):∀b∈lC X.stack,b∈X.env.locals::X.fs:=fun b hb=>by
 rcases I.ok.stk with e|⟨e,hf⟩
 ·rw[e]at hb;exact BF _ hb
 ·rw[e]at hb
  unfold lC at hb;rw[List.filterMap_cons,hf]at hb;exact hb
theorem Inv.stkFree(I:Inv X pins σ H s):∀b∈lC X.stack,H b=none:=fun b hb=>by
 rcases BP.mp (I.stkSub b hb)with e|hb
 ·rw[e];exact I.free
 ·obtain⟨_,o,ho,_⟩:=I.ok.funs.mem hb
  exact I.base.free b o ho (I.ok.frf b hb) fun z=>I.ok.exfs b z hb
theorem Inv.step{g' :Array GenState}{t' :Nat}{d' :Drawn}{ch:List Addr}(I:Inv X pins σ H s)
  (hch:∀b∈ch,(b∈X.ex\/X.s₀.heap.objs.size<=b)/\b≠X.env.locals/\(∀x c,X.env.cells.lookup x=some c->c≠b)/\∀p∈X.pn++pins,p.1≠b)
  (keep:∀b o,b≠X.env.locals->b∉X.fs->b∉ch->s.heap.get? b=some o->H b=none->h'.get? b=some o)
  (slot:∀b o,b≠X.env.locals->b∈X.fs->b∉ch->s.heap.get? b=some o->H b=none->∃sl,h'.get? b=some {o with slots:=sl}) (free:∀b o,b∉ch->s.heap.get? b=some o->H b=none->H' b=none)
  (there:∀b o,b∉ch->s.heap.get? b=some o->∃o',h'.get? b=some o')
  (tups:∀b xs,H b=some (.tup xs)->H' b=some (.tup xs)) (frzs:∀b o u,H b=some (.frz o u)->H' b=some (.frz o u)) (tbls:∀b ps,H b=some (.tbl ps)->∃more,H' b=some (.tbl (ps++more)))
  (ns:∀m,s.heap.Ns X.env.locals m->h'.Ns X.env.locals m) (hok:cS X.prog X.w H' h') (hg:AllBare g') :
  Inv X pins σ H' {s with heap:=h',gens:=g',drawn:=d',toks:=t'}:=by
 have neL:∀b o,X.s₀.heap.get? b=some o->b≠X.env.locals:=fun b o e=>BX (BV (BE e) I.ok.above);have neC:∀b o,X.s₀.heap.get? b=some o->b∉X.ex->b∉ch:=fun b o e hx hb=>by
  rcases(hch b hb).1 with z|z
  ·exact hx z
  ·exact absurd (BV (BE e) z) (CA _)
 have cellK:∀x c,X.env.cells.lookup x=some c->∀v,s.heap.IsCell c v->h'.IsCell c v:=fun x c e v ⟨o,ho,hd⟩=>by
  have nch:c∉ch:=fun z=>(hch c z).2.2.1 x c e rfl
  by_cases hc:c∈X.fs
  ·obtain⟨sl,q⟩:=slot c o (I.cne x c e) hc nch ho (I.freeC x c e)
   exact⟨_,q,hd⟩
  ·exact⟨o,keep c o (I.cne x c e) hc nch ho (I.freeC x c e),hd⟩
 refine⟨I.ok,I.os,hg,⟨fun b o e n hb hx=> ?_,fun b o e n hb hx=> ?_,fun b o e n hx=> ?_,fun b o e hx=> ?_,fun b xs e=>tups b xs (I.base.tups b xs e),fun b o xs e=>frzs b o xs (I.base.frzs b o xs e),fun b ps e=> ?_⟩,?_,fun x c e=> ?_,?_,fun x c e=> ?_,fun p hp=> ?_,hok,I.len⟩
 ·exact keep b o (neL b o e) hb (neC b o e hx) (I.base.keep b o e n hb hx) (I.base.free b o e n hx)
 ·obtain⟨sl,e1⟩:=I.base.slot b o e n hb hx
  obtain⟨sl',e2⟩:=slot b _ (neL b o e) hb (neC b o e hx) e1 (I.base.free b o e n hx);exact⟨sl',e2⟩
 ·obtain⟨o',e1⟩:=I.base.there b o e hx
  exact free b o' (neC b o e hx) e1 (I.base.free b o e n hx)
 ·obtain⟨o',e1⟩:=I.base.there b o e hx
  exact there b o' (neC b o e hx) e1
 ·obtain⟨m1,e1⟩:=I.base.tbls b ps e
  obtain⟨m2,e2⟩:=tbls b _ e1;exact⟨m1++m2,by rw[e2,Array.append_assoc]⟩
 ·obtain⟨m,hn,hl⟩:=I.loc
  refine⟨m,ns m hn,fun i x v e1 e2 e3=> ?_⟩;obtain⟨u,r,l⟩:=hl i x v e1 e2 e3;refine⟨u,r,?_⟩
  rcases l with l|⟨k,c,e,z⟩
  ·exact .inl l
  ·exact .inr ⟨k,c,e,cellK x c e _ z⟩
 ·obtain⟨v,z⟩:=I.cell x c e
  exact⟨v,cellK x c e v z⟩
 ·obtain⟨m,⟨o,_,_,ho,_⟩,_⟩:=I.loc
  exact free _ o (fun z=>(hch _ z).2.1 rfl) ho I.free
 ·obtain⟨v,o,ho,hd⟩:=I.cell x c e
  exact free c o (fun z=>(hch c z).2.2.1 x c e rfl) ho (I.freeC x c e)
 ·obtain⟨e,n,ne,nf,d⟩:=I.pin p hp
  have nch:p.1∉ch:=fun z=>(hch p.1 z).2.2.2 p hp rfl;exact⟨keep p.1 p.2 ne nf nch e n,free p.1 p.2 nch e n,ne,nf,d⟩
theorem Inv.un{t' :Nat}(I:Inv X pins σ H s)(u:Un X.fs [] H H' s.heap h')(hok:cS X.prog X.w H' h'):Inv X pins σ H' {s with heap:=h',toks:=t'}:=by
 obtain⟨m,⟨o,es,ep,ho,r⟩,_⟩:=id I.loc;obtain⟨sl,hL⟩:=u.any ho I.free (by simp);exact I.step (g' :=s.gens) (d' :=s.drawn) (ch:=[]) (fun _ z=>nomatch z) (fun b o _ hb _ e n=>u.keep b o e n hb (by simp)) (fun b o _ hb _ e n=>u.slot b o e n hb (by simp)) (fun b o _ e n=>u.free b o e n (by simp)) (fun b o _ e=>u.there b o e (by simp)) u.tups u.frzs u.tbls (fun m' hm=>by
  obtain⟨o',es',ep',ho',r'⟩:=hm;rw[ho]at ho';cases ho';exact⟨_,es',ep',hL,r'⟩) hok I.bare
theorem Inv.call{g' :Array GenState}{t' :Nat}{d' :Drawn}{ch:List Addr}(I:Inv X pins σ H s)(u:Un (lC X.stack) ch H H' s.heap h')(hok:cS X.prog X.w H' h')(hg:AllBare g')
  (hch:∀b∈ch,(b∈X.ex\/X.s₀.heap.objs.size<=b)/\b≠X.env.locals/\(∀x c,X.env.cells.lookup x=some c->c≠b)/\∀p∈X.pn++pins,p.1≠b) :
  Inv X pins σ H' {s with heap:=h',gens:=g',drawn:=d',toks:=t'}:=by
 obtain⟨m,⟨o,es,ep,ho,r⟩,_⟩:=id I.loc;obtain⟨sl,hL⟩:=u.any ho I.free fun z=>(hch _ z).2.1 rfl;exact I.step (ch:=ch) hch (fun b o hL hb hc e n=>u.keep b o e n (fun z=>(BP.mp (I.stkSub b z)).elim hL hb) hc) (fun b o _ _ hc e n=>u.any e n hc) (fun b o hc e n=>u.free b o e n hc) (fun b o hc e=>u.there b o e hc) u.tups u.frzs u.tbls (fun m' hm=>by
  obtain⟨o',es',ep',ho',r'⟩:=hm;rw[ho]at ho';cases ho';exact⟨_,es',ep',hL,r'⟩) hok hg
theorem Inv.turned{t' :Nat}{it:Addr}(I:Inv X pins σ H s)(k:∀b o,b≠it->s.heap.get? b=some o->h'.get? b=some o)(hn:H it=none)(hL:it≠X.env.locals)
  (h1:it∈X.ex\/X.s₀.heap.objs.size<=it) (h2:∀x c,X.env.cells.lookup x=some c->c≠it) (h3:∀p∈X.pn++pins,p.1≠it):Inv X pins σ H {s with heap:=h',toks:=t'}:=by
 have nit:∀b u,H b=some u->b≠it:=fun b u e z=>by rw[z,hn]at e;cases e
 refine I.step (g' :=s.gens) (d' :=s.drawn) (ch:=[it]) (fun b hb=> ?_) (fun b o _ _ hc e _=>k b o (fun z=>hc (by simp[z])) e) (fun b o _ _ hc e _=>⟨o.slots,k b o (fun z=>hc (by simp[z])) e⟩) (fun _ _ _ _ n=>n)
  (fun b o hc e=>⟨o,k b o (fun z=>hc (by simp[z])) e⟩) (fun _ _ e=>e) (fun _ _ _ e=>e) (fun b ps e=>⟨#[],by rw[e];simp⟩) (fun m hm=> ?_) (fun b u e=> ?_) I.bare
 ·have e:b=it:=by simpa using hb
  subst e;exact⟨h1,hL,h2,h3⟩
 ·obtain⟨o,es,ep,ho,r⟩:=hm
  exact⟨o,es,ep,k _ o (CQ hL) ho,r⟩
 ·refine(I.hok b u e).stay (fun c v hc q=>k c v ?_ q) (fun _ q=>q) fun _ _ q=>q
  rcases hc with z|z
  ·rw[z];exact nit b u e
  ·exact nit c _ z
theorem Inv.tok(I:Inv X pins σ H s)(t:Nat):Inv X pins σ H {s with toks:=t}:=I.un (h' :=s.heap) (t' :=t) Un.refl I.hok
theorem Inv.kept{t' :Nat}(I:Inv X pins σ H s)(k:∀b u,s.heap.get? b=some u->h'.get? b=some u):Inv X pins σ H {s with heap:=h',toks:=t'}:=I.un (Un.kept k) (I.hok.kept k)
theorem Inv.laid{a:Addr}{o:HO}{t' :Nat}(I:Inv X pins σ H s)(k:∀b u,s.heap.get? b=some u->h'.get? b=some u)(hp:s.heap.objs.size<=a)(new:aY X.prog X.w (upd H a o) h' a o) :
  Inv X pins σ (upd H a o) {s with heap:=h',toks:=t'}:=I.un (Un.laid k hp (I.hok.fresh hp)) (I.hok.laid k hp new)
theorem Inv.write{x e:Addr}{o:HO}{t' :Nat}(I:Inv X pins σ H s)(mu:zB (H x))(he:e=x\/H e=some (.own x))(k:∀b u,b≠e->s.heap.get? b=some u->h'.get? b=some u)(heo:∃u,h'.get? e=some u)
  (new:aY X.prog X.w (upd H x o) h' x o):Inv X pins σ (upd H x o) {s with heap:=h',toks:=t'}:=I.un (Un.write mu he k heo) (I.hok.write mu he k heo new)
theorem Inv.weak{σ' :List (Option V)}(I:Inv X pins σ H s)(hl:σ'.length=σ.length)(w:∀(i:Nat) v,σ'[i]? =some (some v)->σ[i]? =some (some v)):Inv X pins σ' H s :=
 ⟨I.ok,I.os,I.bare,I.base,let⟨m,hn,hl'⟩:=I.loc;⟨m,hn,fun i x v e1 e2 e3=>hl' i x v e1 (w i v e2) e3⟩,I.cell,I.free,I.freeC,I.pin,I.hok,hl.trans I.len⟩
theorem Inv.pins_of{pins' :List (Addr×Obj)}(I:Inv X pins σ H s)(h:∀p∈pins',s.heap.get? p.1=some p.2/\H p.1=none/\p.1≠X.env.locals/\p.1∉X.fs/\∀v,p.2.data≠.cell v):Inv X pins' σ H s :=
 ⟨I.ok,I.os,I.bare,I.base,I.loc,I.cell,I.free,I.freeC,fun p hp=>(Bq.mp hp).elim (fun z=>I.pin p (Cw _ z)) (h p),I.hok,I.len⟩
theorem du{N:List Str}(hN:N.Nodup){i j:Nat}{x:Str}(a:N[i]? =some x)(b:N[j]? =some x):i=j:=by
 obtain⟨h1,e1⟩:=BM.mp a;obtain⟨h2,e2⟩:=BM.mp b;exact(List.getElem_inj hN).mp (e1.trans e2.symm)
theorem hZ{M:Model}{A:Around}{E:Value->Shared->Prop}{i:Nat}{x:Str}{v:V}{u:Value}{Q:Unit->Shared->Prop}(I:Inv X pins σ H s)(hN:X.N.Nodup)(hi:X.N[i]? =some x)(hx:Loc X.env.scope x)(r:RelV v u)
  (h:∀s',Inv X pins (σ.set i (some v)) H s' ->(∃a,Heap.SameBut a s.heap s'.heap/\(a=X.env.locals\/X.env.cells.lookup x=some a))->Q () s') (hf:X.fn x=true\/X.env.scope.names.lookup x=some .local:=by first|exact .inl rfl|exact .inr rfl|assumption):wpAny M A (storeName X.env x u) Q E s:=by
 obtain⟨m,hn,hl⟩:=id I.loc;have hcls:(X.env.scope.kind== .class||(X.env.scope.kind== .module&&X.env.locals !=X.env.globals))=false:=by rw[I.ok.kind];rfl
 have hiσ:i<σ.length:=by rw[I.len];exact(BM.mp hi).1
 have cne:=I.cne;have tracked:∀{a:Addr}{h' :Heap},(∃o,s.heap.get? a=some o/\H a=none)->Heap.SameBut a s.heap h' ->cS X.prog X.w H h' :=fun{a h'} ha hs b ob e=>by
  obtain⟨_,_,hfree⟩:=ha;refine(I.hok b ob e).stay (fun c w' hc q=>(hs.2 c ?_).trans q) (fun _ q=>q) fun _ _ q=>q;rintro rfl
  rcases hc with rfl|hc
  ·rw[hfree]at e;cases e
  ·rw[hfree]at hc;cases hc
 rcases hx with hk|hk
 ·refine wpAny_storeName_local hk hn (fun h' hn' hs=> ?_) hcls
  obtain⟨oL,_,_,hoL,_⟩:=id hn;refine h _ ⟨I.ok,I.os,I.bare,⟨fun b o e n hb hx=> ?_,fun b o e n hb hx=> ?_,I.base.free,fun b o e hx=> ?_,I.base.tups,I.base.frzs,I.base.tbls⟩,⟨_,hn',fun j y v' e1 e2 e3=> ?_⟩,fun y c e=> ?_,I.free,I.freeC,fun p hp=> ?_,tracked ⟨oL,hoL,I.free⟩ hs,by simpa using I.len⟩ ⟨_,hs,.inl rfl⟩
  ·exact(hs.2 b (BX (BV (BE e) I.ok.above))).trans (I.base.keep b o e n hb hx)
  ·obtain⟨sl,e1⟩:=I.base.slot b o e n hb hx
   exact⟨sl,(hs.2 b (BX (BV (BE e) I.ok.above))).trans e1⟩
  ·obtain⟨o',e1⟩:=I.base.there b o e hx
   exact⟨o',(hs.2 b (BX (BV (BE e) I.ok.above))).trans e1⟩
  ·by_cases hj:j=i
   ·subst hj
    rw[hi]at e1;cases e1;rw[Bv hiσ]at e2;cases e2;exact⟨u,r,.inl ⟨hk,by simp⟩⟩
   ·rw[Bg (CQ hj)]at e2
    obtain⟨u',r',q⟩:=hl j y v' e1 e2 e3;refine⟨u',r',?_⟩
    rcases q with⟨k,e⟩|⟨k,c,e,z⟩
    ·refine .inl ⟨k,?_⟩
     have:y≠x:=fun e=>hj (du hN e1 (e▸hi));simp[this,e]
    ·exact .inr ⟨k,c,e,z.sameBut hs (cne y c e)⟩
  ·obtain⟨w',z⟩:=I.cell y c e
   exact⟨w',z.sameBut hs (cne y c e)⟩
  ·obtain⟨e,n,ne,nf,d⟩:=I.pin p hp
   exact⟨(hs.2 p.1 ne).trans e,n,ne,nf,d⟩
 ·have hfn:X.fn x=true:=by
   rcases hf with z|z
   ·exact z
   ·rw[z]at hk;cases hk
  obtain⟨c,hc⟩:=I.ok.has x (.inl hk);obtain⟨w',z⟩:=I.cell x c hc;refine wpAny_storeName_cell I.ok.kind hk hc z (fun h' hc' hs=> ?_);obtain⟨oc,hoc,hocd⟩:=id z;refine h {s with heap:=h'} ⟨I.ok,I.os,I.bare,⟨fun b o e n hb hx=> ?_,fun b o e n hb hx=> ?_,I.base.free,fun b o e hx=> ?_,I.base.tups,I.base.frzs,I.base.tbls⟩,⟨m,hn.sameBut hs (CQ (cne x c hc)),fun j y v' e1 e2 e3=> ?_⟩,fun y c' e=> ?_,I.free,I.freeC,fun p hp=> ?_,tracked ⟨oc,hoc,I.freeC x c hc⟩ hs,by simpa using I.len⟩ ⟨c,hs,.inr hc⟩
  ·exact(hs.2 b (BX (BV (BE e) (I.ok.cab x c hfn hc)))).trans (I.base.keep b o e n hb hx)
  ·obtain⟨sl,e1⟩:=I.base.slot b o e n hb hx
   exact⟨sl,(hs.2 b (BX (BV (BE e) (I.ok.cab x c hfn hc)))).trans e1⟩
  ·obtain⟨o',e1⟩:=I.base.there b o e hx
   exact⟨o',(hs.2 b (BX (BV (BE e) (I.ok.cab x c hfn hc)))).trans e1⟩
  ·by_cases hj:j=i
   ·subst hj
    rw[hi]at e1;cases e1;rw[Bv hiσ]at e2;cases e2;exact⟨u,r,.inr ⟨.inl hk,c,hc,hc'⟩⟩
   ·rw[Bg (CQ hj)]at e2
    obtain⟨u',r',q⟩:=hl j y v' e1 e2 e3;refine⟨u',r',?_⟩
    rcases q with q|⟨k,c',e,z'⟩
    ·exact .inl q
    ·refine .inr ⟨k,c',e,z'.sameBut hs ?_⟩
     rintro rfl;exact hj (du hN e1 (I.ok.inj _ _ _ e hc▸hi))
  ·by_cases hcc:c' =c
   ·subst hcc;exact⟨_,hc'⟩
   ·obtain⟨w2,z2⟩:=I.cell y c' e
    exact⟨w2,z2.sameBut hs hcc⟩
  ·obtain⟨e,n,ne,nf,d⟩:=I.pin p hp
   refine⟨(hs.2 p.1 ?_).trans e,n,ne,nf,d⟩;intro q;rw[q,hoc]at e;have q' :oc=p.2:=Bc e;exact d w' (by rw[<- q'];exact hocd)
theorem dh{M:Model}{A:Around}{E:Value->Shared->Prop}{i:Nat}{x:Str}{v:V}{u:Value}{Q:Unit->Shared->Prop}(I:Inv X pins σ H s)(hN:X.N.Nodup)(hi:X.N[i]? =some x)(hx:Loc X.env.scope x)(r:RelV v u)
  (h:∀s',Inv X pins (σ.set i (some v)) H s' ->Q () s') (hf:X.fn x=true\/X.env.scope.names.lookup x=some .local:=by first|exact .inl rfl|exact .inr rfl|assumption):wpAny M A (storeName X.env x u) Q E s :=
 hZ I hN hi hx r (fun s' I' _=>h s' I') hf
theorem Inv.call'{s' :Shared}{ch:List Addr}(I:Inv X pins σ H s)(ho:s'.os=s.os)(u:Un (lC X.stack) ch H H' s.heap s'.heap)(hok:cS X.prog X.w H' s'.heap)(hg:AllBare s'.gens)
  (hch:∀b∈ch,(b∈X.ex\/X.s₀.heap.objs.size<=b)/\b≠X.env.locals/\(∀x c,X.env.cells.lookup x=some c->c≠b)/\∀p∈X.pn++pins,p.1≠b):Inv X pins σ H' s' :=by
 obtain⟨h',g',d',t',o'⟩:=s';have e:o' =s.os:=ho;subst e;exact I.call (g' :=g') (t' :=t') (d' :=d') u hok hg hch
end
noncomputable abbrev XK:=Value->Option Addr->Hp->Prop
noncomputable abbrev St:=List (Option V)
noncomputable abbrev VK:=V->Hp->Prop
noncomputable abbrev TE:=St->Hp->VK->Prop
noncomputable abbrev TT:=St->Hp->(Bool->Hp->Prop)->Prop
noncomputable abbrev TA:=St->Hp->(List V->Hp->Prop)->Prop
structure cX where
 nx:St->Hp->Prop
 rt:VK
 bk:St->Hp->Prop:=fun _ _=>False
 ct:St->Hp->Prop:=fun _ _=>False
noncomputable abbrev TS:=cX->St->Hp->Prop
noncomputable def EP(X:Cx)(pins:List (Addr×Obj))(σ:St)(Q:VK)(u:Value)(s' :Shared):Prop:=∃v H',Inv X pins σ H' s' /\RelV v u/\Q v H'
noncomputable def TP(X:Cx)(pins:List (Addr×Obj))(σ:St)(Q:Bool->Hp->Prop)(b:Bool)(s' :Shared):Prop:=∃H',Inv X pins σ H' s' /\Q b H'
noncomputable def AP(X:Cx)(pins:List (Addr×Obj))(σ:St)(Q:List V->Hp->Prop)(us:List Value)(s' :Shared):Prop:=∃vs H',Inv X pins σ H' s' /\aI vs us/\Q vs H'
noncomputable def SP(X:Cx)(pins:List (Addr×Obj))(D:cX)(f:Flow)(s' :Shared):Prop :=
 match f with
 | .next=>∃σ' H',Inv X pins σ' H' s' /\D.nx σ' H'
 | .brk=>∃σ' H',Inv X pins σ' H' s' /\D.bk σ' H'
 | .cont=>∃σ' H',Inv X pins σ' H' s' /\D.ct σ' H'
 | .ret u=>∃v σ' H',Inv X pins σ' H' s' /\RelV v u/\D.rt v H'
noncomputable def PE(X:Cx)(e:Expr)(t:TE):Prop :=
 ∀(pins:List (Addr×Obj))(s:Shared)(σ:St)(H:Hp)(Q:VK),Inv X pins σ H s->t σ H Q->wpAny (model X.prog X.w) X.A (eval e X.env) (EP X pins σ Q) X.xe s
noncomputable def PT(X:Cx)(e:Expr)(t:TT):Prop :=
 ∀(pins:List (Addr×Obj))(s:Shared)(σ:St)(H:Hp)(Q:Bool->Hp->Prop),Inv X pins σ H s->t σ H Q->wpAny (model X.prog X.w) X.A (isTrue e X.env (eval e X.env)) (TP X pins σ Q) X.xe s
noncomputable def PW(X:Cx)(e:Expr)(t:TT):Prop :=
 ∀(whole:Sem Value)(pins:List (Addr×Obj))(s:Shared)(σ:St)(H:Hp)(Q:Bool->Hp->Prop),Inv X pins σ H s->t σ H Q->wpAny (model X.prog X.w) X.A (isTrue e X.env whole) (TP X pins σ Q) X.xe s
noncomputable def PA(X:Cx)(es:List Expr)(t:TA):Prop :=
 ∀(pos:Pos)(pins:List (Addr×Obj))(s:Shared)(σ:St)(H:Hp)(Q:List V->Hp->Prop),Inv X pins σ H s->t σ H Q->wpAny (model X.prog X.w) X.A (spliced (backTo pos (starEach es X.env))) (AP X pins σ Q) X.xe s
noncomputable def PS(X:Cx)(st:Stmt)(t:TS):Prop :=
 ∀(pins:List (Addr×Obj))(s:Shared)(σ:St)(H:Hp)(D:cX),Inv X pins σ H s->t D σ H->wpAny (model X.prog X.w) X.A (exec st X.env) (SP X pins D) X.xe s
noncomputable def jW(X:Cx)(st:List Stmt)(t:TS):Prop :=
 ∀(pins:List (Addr×Obj))(s:Shared)(σ:St)(H:Hp)(D:cX),Inv X pins σ H s->t D σ H->wpAny (model X.prog X.w) X.A (execs st X.env) (SP X pins D) X.xe s
theorem ae{α:Type}{t:Sem α}{Q Q' :α->Shared->Prop}{M:Model}{A:Around}{E:Value->Shared->Prop}{s:Shared}(h:wpAny M A t Q E s)(hQ:∀a s,Q a s->Q' a s):wpAny M A t Q' E s:=B5 h hQ fun _ _ x=>x
section
variable{X:Cx}
theorem bin{a b:Expr}{ta tb:TE}(ha:PE X a ta)(hb:PE X b tb){pins:List (Addr×Obj)}{s:Shared}{σ:St}{H:Hp}{R:V->V->Hp->Prop}(I:Inv X pins σ H s)(h:ta σ H fun x H1=>tb σ H1 fun y H2=>R x y H2)
  {α:Type} {Q:α->Shared->Prop} {f:Value->Value->Sem α}
  (hf:∀v u s2 x y H2,Inv X pins σ H2 s2->RelV x v->RelV y u->R x y H2->wpAny (model X.prog X.w) X.A (f v u) Q X.xe s2) :
  wpAny (model X.prog X.w) X.A (eval a X.env) (fun v s₁=>wpAny (model X.prog X.w) X.A (eval b X.env) (fun u s₂=>wpAny (model X.prog X.w) X.A (f v u) Q X.xe s₂) X.xe s₁) X.xe s:=by
 refine ae (ha pins s σ H _ I h) fun v s1 hpq=> ?_;obtain⟨x,H1,I1,r1,q1⟩:=hpq;refine ae (hb pins s1 σ H1 _ I1 q1) fun u s2 hpq=> ?_;obtain⟨y,H2,I2,r2,q2⟩:=hpq;exact hf v u s2 x y H2 I2 r1 r2 q2
noncomputable def zQ(i:Nat):TE:=fun σ H Q=>∃v,σ[i]? =some (some v)/\Q v H
noncomputable def tC(v:V):TE:=fun _ H Q=>Q v H
theorem lO{i:Nat}{x:Str}{pos:Pos}(hN:X.N[i]? =some x)(hv:Au X.env.scope x)(hd:(x==("__debug__":Str))=false:=by decide)(hcd:(x==("__classdict__":Str))=false:=by decide):PE X (.Name x pos) (zQ i):=by
 intro pins s σ H Q I h;obtain⟨v,e,h⟩:=h;obtain⟨m,hn,hl⟩:=I.loc;obtain⟨u,r,l⟩:=hl i x v hN e hv;have fin:EP X pins σ Q u s:=⟨v,H,I,r,h⟩
 rcases l with⟨hk,hm⟩|⟨hk,c,hc,hcell⟩
 ·exact wpAny_Name (wpAny_loadName_local I.ok.kind hk hn hm fin) hd
 ·rcases hk with hk|hk
  ·exact wpAny_Name (wpAny_loadName_cell I.ok.kind hk hc hcell fin) hd
  ·exact wpAny_Name (wpAny_loadName_free I.ok.kind hk hc hcell fin hcd) hd
theorem bw{i j pos}:PE X (.Constant (.int i) j pos) (tC (.int i)):=fun _ _ _ H _ I h=>wpAny_Constant_int ⟨.int i,H,I.tok _,⟨_,rfl⟩,h⟩
theorem dr{b j pos}:PE X (.Constant (.bool b) j pos) (tC (.bl b)):=fun _ _ _ H _ I h=>Constant_bool ⟨.bl b,H,I,rfl,h⟩
theorem qf{j pos}:PE X (.Constant .none j pos) (tC .non):=fun _ _ _ H _ I h=>Constant_none ⟨.non,H,I,rfl,h⟩
theorem lQ{x j pos}:PE X (.Constant (.str x) j pos) (tC (.str x)):=fun _ _ _ H _ I h=>Calls.Constant_str ⟨.str x,H,I.tok _,⟨_,rfl⟩,h⟩
noncomputable def Gl(X:Cx)(x:Str):Prop:=X.env.kindOf x=some .globalImplicit
theorem bU{E:Value->Shared->Prop}{pins:List (Addr×Obj)}{s:Shared}{σ:St}{H:Hp}{x:Str}{u:Value}{pos:Pos}{Q:Value->Shared->Prop}(I:Inv X pins σ H s)(hg:Gl X x)(hm:X.mg x=some u)(h:Q u s)
  (hd:(x==("__debug__":Str))=false:=by decide):wpAny (model X.prog X.w) X.A (eval (.Name x pos) X.env) Q E s :=
 Calls.Name_function_global I.ok.kind hg (Calls.loadGlobal_global (by rw[I.ok.glob];exact I.mod.glob.keeps I.bk) hm h) hd
theorem dX{E:Value->Shared->Prop}{pins:List (Addr×Obj)}{s:Shared}{σ:St}{H:Hp}{x:Str}{u:Value}{pos:Pos}{Q:Value->Shared->Prop}(I:Inv X pins σ H s)(hg:Gl X x)(hm:X.mg x=none)(hv:bootBuiltins x=some u)(h:Q u s)
  (hn:x≠"__name__":=by decide) (hd:(x==("__debug__":Str))=false:=by decide):wpAny (model X.prog X.w) X.A (eval (.Name x pos) X.env) Q E s:=by
 obtain⟨mb,h1,h2⟩:=I.mod.blt;exact Calls.Name_function_global I.ok.kind hg (Calls.loadGlobal_builtin (by rw[I.ok.glob];exact I.mod.glob.keeps I.bk) hm (by rw[I.ok.blt];exact h1.keeps I.bk) ((h2 x hn).trans hv) h) hd
theorem cz{x:Str}{v:V}{u:Value}{pos:Pos}(hg:Gl X x)(hm:X.mg x=some u)(r:RelV v u)(hd:(x==("__debug__":Str))=false:=by decide):PE X (.Name x pos) (tC v) :=
 fun _ _ _ H _ I h=>bU I hg hm ⟨v,H,I,r,h⟩ hd
theorem ub{x:Str}{v:V}{u:Value}{pos:Pos}(hg:Gl X x)(hm:X.mg x=none)(hv:bootBuiltins x=some u)(r:RelV v u)(hn:x≠"__name__":=by decide)(hd:(x==("__debug__":Str))=false:=by decide):PE X (.Name x pos) (tC v) :=
 fun _ _ _ H _ I h=>dX I hg hm hv ⟨v,H,I,r,h⟩ hn hd
variable{a b:Expr}{ta tb:TE}{pos:Pos}
noncomputable def PC(X:Cx)(op:CmpOp)(a b:Expr)(t:TE):Prop :=
 ∀(pins:List (Addr×Obj))(s:Shared)(σ:St)(H:Hp)(Q:VK),Inv X pins σ H s->t σ H Q ->
  wpAny (model X.prog X.w) X.A (eval a X.env) (fun v s₁=>wpAny (model X.prog X.w) X.A (eval b X.env) (fun u s₂=>wpAny (model X.prog X.w) X.A (compareOp op v u) (EP X pins σ Q) X.xe s₂) X.xe s₁) X.xe s
theorem rF(b:Expr){op:CmpOp}(h:op≠.In)(h2:op≠.NotIn):behindInMarks op b=false:=by
 have e1:(op==CmpOp.In)=false:=by cases op<;>first|rfl|exact absurd rfl h
 have e2:(op==CmpOp.NotIn)=false:=by cases op<;>first|rfl|exact absurd rfl h2
 cases b<;>simp[behindInMarks,e1,e2]
noncomputable def tIsN(ta:TE):TE:=fun σ H Q=>ta σ H fun x H1=>Q (.bl (decide (x=.non))) H1
theorem RelV.none_iff{x:V}{v:Value}(r:RelV x v):(v==Value.none)=decide (x=.non):=by
 cases x with
 | non=>cases r;rfl
 | bl _=>cases r;rfl
 | int _=>obtain⟨t,rfl⟩:=r;rfl
 | str _=>obtain⟨t,rfl⟩:=r;rfl
 | byt _=>obtain⟨t,rfl⟩:=r;rfl
 | flt _=>obtain⟨t,rfl⟩:=r;rfl
 | ref _=>cases r;rfl
 | ty _=>cases r;rfl
theorem xO{j pos'}(ha:PE X a ta):PC X .Is a (.Constant .none j pos') (tIsN ta):=by
 intro pins s σ H Q I h;refine ae (ha pins s σ H _ I h) fun v s1 hpq=> ?_;obtain⟨x,H1,I1,r1,q1⟩:=hpq;exact Constant_none (is_none_gen ⟨.bl _,H1,I1,by rw[r1.none_iff];rfl,q1⟩)
theorem xN{op:CmpOp}{t:TE}(h:PC X op a b t)(h1:behindInMarks op b=false:=by first|exact rF _ (by decide) (by decide)|rfl):PE X (.Compare a [op] [b] pos) t:=fun pins s σ H Q I hw=>wpAny_Compare1 (h pins s σ H Q I hw) h1
variable{tA tB' :TT}{aO:List Expr}
noncomputable def tAnd(t u:TT):TT:=fun σ H Q=>t σ H fun c H1=>if c=true then u σ H1 Q else Q false H1
noncomputable def tOr(t u:TT):TT:=fun σ H Q=>t σ H fun c H1=>if c=true then Q true H1 else u σ H1 Q
noncomputable def tNot(t:TT):TT:=fun σ H Q=>t σ H fun c H1=>Q (!c) H1
theorem uL(ha:PT X a tA):PW X (.BoolOp .And [a] pos) tA:=by
 intro wh pins s σ H Q I h;refine isTrue_and (ae (ha pins s σ H Q I h) fun c s1 e=> ?_);cases c with
 | true=>exact isTrue_and_nil e
 | false=>exact e
theorem xD(ha:PT X a tA):PW X (.BoolOp .Or [a] pos) tA:=by
 intro wh pins s σ H Q I h;refine isTrue_or (ae (ha pins s σ H Q I h) fun c s1 e=> ?_);cases c with
 | false=>exact isTrue_or_nil e
 | true=>exact e
theorem xE(ha:PT X a tA)(hb:PW X (.BoolOp .And (b::aO) pos) tB'):PW X (.BoolOp .And (a::b::aO) pos) (tAnd tA tB'):=by
 intro wh pins s σ H Q I h;refine isTrue_and (ae (ha pins s σ H _ I h) fun c s1 hpq=> ?_);obtain⟨H1,I1,q1⟩:=hpq;cases c with
 | true=>exact hb wh pins s1 σ H1 Q I1 q1
 | false=>exact⟨H1,I1,q1⟩
theorem zw(ha:PT X a tA)(hb:PW X (.BoolOp .Or (b::aO) pos) tB'):PW X (.BoolOp .Or (a::b::aO) pos) (tOr tA tB'):=by
 intro wh pins s σ H Q I h;refine isTrue_or (ae (ha pins s σ H _ I h) fun c s1 hpq=> ?_);obtain⟨H1,I1,q1⟩:=hpq;cases c with
 | true=>exact⟨H1,I1,q1⟩
 | false=>exact hb wh pins s1 σ H1 Q I1 q1
theorem xH(ha:PT X a tA):PT X (.UnaryOp .Not a pos) (tNot tA):=by
 intro pins s σ H Q I h;exact isTrue_not (ha pins s σ H (fun c H1=>Q (!c) H1) I h)
noncomputable def ze(ta tb:TE):TE:=fun σ H Q=>ta σ H fun x H1=>∃c,x=.bl c/\if c=true then tb σ H1 Q else Q (.bl false) H1
noncomputable def tOrV(ta tb:TE):TE:=fun σ H Q=>ta σ H fun x H1=>∃c,x=.bl c/\if c=true then Q (.bl true) H1 else tb σ H1 Q
noncomputable def zV(ta:TE):TE:=fun σ H Q=>ta σ H fun x H1=>∃c,x=.bl c/\Q (.bl (!c)) H1
theorem qe{op}{t:TE}(h:PE X a t):PE X (.BoolOp op [a] pos) t:=fun pins s σ H Q I hw=>BoolOp_one (h pins s σ H Q I hw)
theorem lR(ha:PE X a ta)(hb:PE X (.BoolOp .And (b::aO) pos) tb):PE X (.BoolOp .And (a::b::aO) pos) (ze ta tb):=by
 intro pins s σ H Q I h;refine BoolOp_and (ae (ha pins s σ H _ I h) fun v s1 hpq=> ?_);obtain⟨x,H1,I1,r1,q1⟩:=hpq;obtain⟨c,rfl,q1⟩:=q1;cases r1;refine B3 ?_;cases c with
 | true=>exact hb pins s1 σ H1 Q I1 q1
 | false=>exact⟨.bl false,H1,I1,rfl,q1⟩
theorem wC(ha:PE X a ta)(hb:PE X (.BoolOp .Or (b::aO) pos) tb):PE X (.BoolOp .Or (a::b::aO) pos) (tOrV ta tb):=by
 intro pins s σ H Q I h;refine BoolOp_or (ae (ha pins s σ H _ I h) fun v s1 hpq=> ?_);obtain⟨x,H1,I1,r1,q1⟩:=hpq;obtain⟨c,rfl,q1⟩:=q1;cases r1;refine B3 ?_;cases c with
 | false=>exact hb pins s1 σ H1 Q I1 q1
 | true=>exact⟨.bl true,H1,I1,rfl,q1⟩
theorem xM(ha:PE X a ta):PE X (.UnaryOp .Not a pos) (zV ta):=by
 intro pins s σ H Q I h;refine UnaryOp_ (ae (ha pins s σ H _ I h) fun v s1 hpq=> ?_);obtain⟨x,H1,I1,r1,q1⟩:=hpq;obtain⟨c,rfl,q1⟩:=q1;cases r1;exact not_of (B3 ⟨.bl (!c),H1,I1,rfl,q1⟩)
noncomputable def tIf(t:TT)(ta tb:TE):TE:=fun σ H Q=>t σ H fun c H1=>if c=true then ta σ H1 Q else tb σ H1 Q
theorem qj{c:Expr}(hc:PT X c tA)(ha:PE X a ta)(hb:PE X b tb):PE X (.IfExp c a b pos) (tIf tA ta tb):=by
 intro pins s σ H Q I h;refine wpAny_IfExp (ae (hc pins s σ H _ I h) fun d s1 hpq=> ?_);obtain⟨H1,I1,q1⟩:=hpq;cases d with
 | true=>exact ha pins s1 σ H1 Q I1 q1
 | false=>exact hb pins s1 σ H1 Q I1 q1
end
noncomputable def aj(K:W.Frag)(H:Hp)(a:Addr)(xs:List V):Prop :=
 Rd H a (.lst xs) \/
  ∃(o:Obj)(its:Array Value)(n:Nat),K.lookup a=some o/\o.cls=.type "list"/\o.dict=none/\o.data=.seq its n/\its.size<=sizeLine/\aI xs its.toList
noncomputable def bI(K:W.Frag)(H:Hp)(a:Addr)(xs:List V):Prop :=
 Rd H a (.tup xs) \/
  ∃(o:Obj)(its:Array Value)(n:Nat),K.lookup a=some o/\o.cls=.type "tuple"/\o.dict=none/\o.data=.seq its n/\its.size<=sizeLine/\aI xs its.toList
noncomputable def absV:Value->Option V
 | .none=>some .non
 | .bool b=>some (.bl b)
 | .int i _=>some (.int i)
 | .str x _=>some (.str x)
 | .bytes b _=>some (.byt b)
 | .float b _=>some (.flt b)
 | .ref a=>some (.ref a)
 | .type n=>some (.ty n)
 | _=>none
theorem RelV.abs{x:V}{u:Value}(r:RelV x u):absV u=some x:=by
 cases x with
 | non=>cases r;rfl
 | bl _=>cases r;rfl
 | int _=>obtain⟨t,rfl⟩:=r;rfl
 | str _=>obtain⟨t,rfl⟩:=r;rfl
 | byt _=>obtain⟨t,rfl⟩:=r;rfl
 | flt _=>obtain⟨t,rfl⟩:=r;rfl
 | ref _=>cases r;rfl
 | ty _=>cases r;rfl
theorem RelV.inj{x y:V}{u:Value}(r:RelV x u)(q:RelV y u):x=y:=Bc (r.abs.symm.trans q.abs)
theorem aI.inj{xs ys:List V}{us:List Value}(h:aI xs us)(k:aI ys us):xs=ys:=by
 induction h generalizing ys with
 | nil=>cases k;rfl
 | cons r t ih =>
  cases k with
  | cons r' t' =>rw[r.inj r',ih t']
section
variable{X:Cx}{pins:List (Addr×Obj)}{σ:St}{H:Hp}{s:Shared}{a:Addr}{xs ys:List V}
theorem aj.of{K:W.Frag}(h:H a=some (.lst xs)):aj K H a xs:=.inl (.inl h)
theorem bI.of{K:W.Frag}(h:H a=some (.tup xs)):bI K H a xs:=.inl (.inl h)
theorem Inv.list(I:Inv X pins σ H s)(h:aj X.K H a xs):∃its:List Value,aI xs its/\PlainL s.heap a its.toArray/\xs.length<=sizeLine:=by
 rcases h with h|⟨o,its,n,hk,hc,hd,hs,hz,r⟩
 ·obtain⟨z,its,n,r,e⟩:=h.ok I.hok
  exact⟨its,r,⟨_,n,e,rfl,rfl,rfl⟩,z⟩
 ·refine⟨its.toList,r,⟨o,n,I.kIn a o hk,hc,hd,by simpa using hs⟩,?_⟩
  have e:=r.length;simp only[Br]at e;omega
theorem Inv.tuple(I:Inv X pins σ H s)(h:bI X.K H a xs):∃its:List Value,aI xs its/\IsTup s.heap a its.toArray/\xs.length<=sizeLine:=by
 rcases h with h|⟨o,its,n,hk,hc,_,hs,hz,r⟩
 ·obtain⟨z,its,r,p⟩:=h.ok I.hok
  exact⟨its,r,p.tup,z⟩
 ·refine⟨its.toList,r,⟨o,I.kIn a o hk,hc,n,by simpa using hs⟩,?_⟩
  have e:=r.length;simp only[Br]at e;omega
theorem Inv.tupleD(I:Inv X pins σ H s)(h:bI X.K H a xs):∃o,s.heap.get? a=some o/\o.cls=.type "tuple"/\o.dict=none:=by
 rcases h with h|⟨o,its,n,hk,hc,hd,_⟩
 ·obtain⟨z,its,r,o,e,c,n,_,d⟩:=h.ok I.hok
  exact⟨o,e,c,d⟩
 ·exact⟨o,I.kIn a o hk,hc,hd⟩
theorem Inv.list_inj(I:Inv X pins σ H s)(h:aj X.K H a xs)(h' :aj X.K H a ys):xs=ys:=by
 obtain⟨its,r,⟨o,n,e,_,_,d⟩,_⟩:=I.list h;obtain⟨its',r',⟨o',n',e',_,_,d'⟩,_⟩:=I.list h';rw[e]at e';cases e';rw[d]at d'
 injection d' with d1 _
 have:its=its' :=by simpa using B4 Array.toList d1
 subst this;exact r.inj r'
theorem Inv.tuple_inj(I:Inv X pins σ H s)(h:bI X.K H a xs)(h' :bI X.K H a ys):xs=ys:=by
 obtain⟨its,r,⟨o,e,_,n,d⟩,_⟩:=I.tuple h;obtain⟨its',r',⟨o',e',_,n',d'⟩,_⟩:=I.tuple h';rw[e]at e';cases e';rw[d]at d'
 injection d' with d1 _
 have:its=its' :=by simpa using B4 Array.toList d1
 subst this;exact r.inj r'
end
noncomputable abbrev Cx.wish(X:Cx)(E:Value->Shared->Prop):Cx:={X with xe:=E}
noncomputable abbrev Cx.nox(X:Cx):Cx:=X.wish fun _ _=>False
theorem Cx.Ok.wish{X:Cx}(ok:X.Ok)(E:Value->Shared->Prop):(X.wish E).Ok :=
 ⟨ok.mod,ok.kind,ok.glob,ok.blt,ok.above,ok.inj,ok.has,ok.cab,ok.hd,ok.frames,ok.stk,ok.exf,ok.bs,ok.bsz,ok.noex,ok.exfs,ok.funs,ok.frf⟩
theorem Cx.Ok.unwish{X:Cx}{E:Value->Shared->Prop}(ok:(X.wish E).Ok):X.Ok :=
 ⟨ok.mod,ok.kind,ok.glob,ok.blt,ok.above,ok.inj,ok.has,ok.cab,ok.hd,ok.frames,ok.stk,ok.exf,ok.bs,ok.bsz,ok.noex,ok.exfs,ok.funs,ok.frf⟩
section
variable{X:Cx}{pins:List (Addr×Obj)}{σ:St}{H:Hp}{s:Shared}{E:Value->Shared->Prop}
theorem Inv.wish(I:Inv X pins σ H s)(E:Value->Shared->Prop):Inv (X.wish E) pins σ H s:=⟨I.ok.wish E,I.os,I.bare,I.base,I.loc,I.cell,I.free,I.freeC,I.pin,I.hok,I.len⟩
theorem Inv.unwish(I:Inv (X.wish E) pins σ H s):Inv X pins σ H s:=⟨I.ok.unwish,I.os,I.bare,I.base,I.loc,I.cell,I.free,I.freeC,I.pin,I.hok,I.len⟩
theorem SP.unwish{D:cX}{f:Flow}{s' :Shared}(h:SP (X.wish E) pins D f s'):SP X pins D f s' :=by
 cases f with
 | next=>obtain⟨σ',H',I,q⟩:=h;exact⟨σ',H',I.unwish,q⟩
 | brk=>obtain⟨σ',H',I,q⟩:=h;exact⟨σ',H',I.unwish,q⟩
 | cont=>obtain⟨σ',H',I,q⟩:=h;exact⟨σ',H',I.unwish,q⟩
 | ret u=>obtain⟨v,σ',H',I,r,q⟩:=h;exact⟨v,σ',H',I.unwish,r,q⟩
theorem jW.nox{st:List Stmt}{t:TS}(h:jW X.nox st t):jW X st t:=fun pins s σ H D I hw =>
 B5 (h pins s σ H D (I.wish _) hw) (fun _ _ q=>q.unwish) fun _ _ z=>False.elim z
end
section
variable{X:Cx}{st:Stmt}{aO:List Stmt}{t u:TS}{e:Expr}{te:TE}{pos:Pos}
noncomputable def vz:TS:=fun D σ H=>D.nx σ H
noncomputable def zS(t u:TS):TS:=fun D σ H=>t {D with nx:=u D} σ H
theorem dm:jW X [] vz:=fun _ _ σ H _ I h=>DF ⟨σ,H,I,h⟩
theorem ag(h1:PS X st t)(h2:jW X aO u):jW X (st::aO) (zS t u):=by
 intro pins s σ H D I h;refine wpAny_execs_cons (ae (h1 pins s σ H {D with nx:=u D} I h) fun f s1 q=> ?_);cases f with
 | next =>
  obtain⟨σ',H',I',q⟩:=q;exact h2 pins s1 σ' H' D I' q
 | ret v=>exact q
 | brk=>exact q
 | cont=>exact q
theorem bT(h1:PS X st t):jW X [st] t:=by
 intro pins s σ H D I h;refine wpAny_execs_cons (ae (h1 pins s σ H D I h) fun f s1 q=> ?_);cases f with
 | next=>exact DF q
 | ret v=>exact q
 | brk=>exact q
 | cont=>exact q
noncomputable def wo:TS:=fun D σ H=>D.bk σ H
noncomputable def zY:TS:=fun D σ H=>D.ct σ H
theorem uP:PS X (.Pass pos) vz:=fun _ _ σ H _ I h=>wpAny_Pass ⟨σ,H,I,h⟩
theorem qP:PS X (.Break pos) wo:=fun _ _ σ H _ I h=>wpAny_Break ⟨σ,H,I,h⟩
theorem j6:PS X (.Continue pos) zY:=fun _ _ σ H _ I h=>wpAny_Continue ⟨σ,H,I,h⟩
theorem Inv.quiet{pins:List (Addr×Obj)}{σ:St}{H:Hp}{s:Shared}(I:Inv X pins σ H s):interactive X.env=false:=by simp[interactive,I.ok.kind]
noncomputable def zW(te:TE):TS:=fun D σ H=>te σ H fun _ H1=>D.nx σ H1
theorem mj(he:PE X e te)(hs:swapsWith e none pos.line X.env=pure false:=by rfl):PS X (.Expr e pos) (zW te):=by
 intro pins s σ H D I h;exact wpAny_Expr_any (ae (he pins s σ H _ I h) fun v s1 ⟨x,H1,I1,r1,q1⟩=>⟨σ,H1,I1,q1⟩) I.quiet hs
noncomputable def tRet(te:TE):TS:=fun D σ H=>te σ H D.rt
theorem ig(he:PE X e te):PS X (.Return (some e) pos) (tRet te):=by
 intro pins s σ H D I h;exact wpAny_Return_some (ae (he pins s σ H _ I h) fun v s1 ⟨x,H1,I1,r1,q1⟩=>⟨x,σ,H1,I1,r1,q1⟩)
noncomputable def zT:TS:=fun D _ H=>D.rt .non H
theorem uO:PS X (.Return none pos) zT:=fun _ _ σ H _ I h=>wpAny_Return_none ⟨.non,σ,H,I,rfl,h⟩
noncomputable def tIfS(c:TT)(t u:TS):TS:=fun D σ H=>c σ H fun b H1=>if b=true then t D σ H1 else u D σ H1
theorem qN{c:Expr}{a b:List Stmt}{tc:TT}(hc:PT X c tc)(ha:jW X a t)(hb:jW X b u):PS X (.If c a b pos) (tIfS tc t u):=by
 intro pins s σ H D I h;refine wpAny_If (ae (hc pins s σ H _ I h) fun d s1 hpq=> ?_);obtain⟨H1,I1,q1⟩:=hpq;cases d with
 | true=>exact ha pins s1 σ H1 D I1 q1
 | false=>exact hb pins s1 σ H1 D I1 q1
end
noncomputable abbrev TG:=V->St->Hp->(St->Hp->Prop)->Prop
noncomputable abbrev ym:=List V->St->Hp->(St->Hp->Prop)->Prop
noncomputable def PG(X:Cx)(target:Expr)(t:TG):Prop :=
 ∀(pins:List (Addr×Obj))(s:Shared)(σ:St)(H:Hp)(v:V)(u:Value)(Q:St->Hp->Prop),Inv X pins σ H s->RelV v u->t v σ H Q ->
  wpAny (model X.prog X.w) X.A (assign target X.env u) (fun _ s' =>∃σ' H',Inv X pins σ' H' s' /\Q σ' H') X.xe s
noncomputable def Aw(X:Cx)(ts:List Expr)(t:ym):Prop :=
 ∀(pins:List (Addr×Obj))(s:Shared)(σ:St)(H:Hp)(vs:List V)(us:List Value)(Q:St->Hp->Prop),Inv X pins σ H s->aI vs us->t vs σ H Q ->
  wpAny (model X.prog X.w) X.A (assignInOrder ((assignEach ts X.env).map (·.2)) us) (fun _ s' =>∃σ' H',Inv X pins σ' H' s' /\Q σ' H') X.xe s
section
variable{X:Cx}{pos:Pos}
noncomputable def nS(i:Nat):TG:=fun v σ H Q=>Q (σ.set i (some v)) H
theorem dq{i:Nat}{x:Str}(hN:X.N.Nodup)(hi:X.N[i]? =some x)(hx:Loc X.env.scope x)(hf:X.fn x=true\/X.env.scope.names.lookup x=some .local:=by first|exact .inl rfl|exact .inr rfl|assumption):PG X (.Name x pos) (nS i):=by
 intro pins s σ H v u Q I r h;exact wpAny_assign_Name (dh I hN hi hx r (fun s' I' =>⟨_,H,I',h⟩) hf)
noncomputable def gNil:ym:=fun vs σ H Q=>vs=[]/\Q σ H
noncomputable def Aa(t:TG)(u:ym):ym:=fun vs σ H Q=>∃v r,vs=v::r/\t v σ H fun σ' H' =>u r σ' H' Q
theorem mn:Aw X [] gNil:=by
 intro pins s σ H vs us Q I r h;obtain⟨e,h⟩:=h;subst e;cases r;exact assignInOrder_nil ⟨σ,H,I,h⟩
theorem gI{e:Expr}{es:List Expr}{t:TG}{u:ym}(h1:PG X e t)(h2:Aw X es u)
  (hs:(assignEach (e::es) X.env).map (·.2)=assign e X.env::(assignEach es X.env).map (·.2):=by rfl):Aw X (e::es) (Aa t u):=by
 intro pins s σ H vs us Q I r h;obtain⟨v,vr,e1,h⟩:=h;subst e1;cases r with
 | cons r rr =>
  rw[hs];refine assignInOrder_cons (ae (h1 pins s σ H _ _ _ I r h) fun _ s1 hpq=> ?_);obtain⟨σ1,H1,I1,q1⟩:=hpq;exact h2 pins s1 σ1 H1 _ _ Q I1 rr q1
noncomputable def gTup(K:W.Frag)(n:Nat)(t:ym):TG:=fun v σ H Q=>∃a xs,v=.ref a/\bI K H a xs/\xs.length=n/\t xs σ H Q
theorem qY{es:List Expr}{k:Nat}{t:ym}{n:Nat}(hc:X.calm=true)(h:Aw X es t)
  (hn:(assignEach es X.env).length=n:=by rfl) (hst:(assignEach es X.env).findIdx? (·.1)=none:=by rfl):PG X (.Tuple es k pos) (gTup X.K n t):=by
 intro pins s σ H v u Q I r hw;obtain⟨a,xs,e1,hq,hl,hw⟩:=hw;subst e1;cases r;obtain⟨its,rv,ht,hz⟩:=I.tuple hq;refine assign_Tuple_tuple (I.ok.hd hc) ht (by simp[hn,<-hl,rv.length]) hst fun h' hx=> ?_;have I1:Inv X pins σ H {s with heap:=h'}:=I.kept (t' :=s.toks) fun b o e=>hx b o (BX (BE e)) e;exact h pins _ σ H xs _ Q I1 (by simpa using rv) hw
noncomputable def zd(te:TE)(g:TG):TS:=fun D σ H=>te σ H fun x H1=>g x σ H1 D.nx
theorem dS{i:Nat}{x:Str}{e:Expr}{te:TE}{pos' :Pos}(hN:X.N.Nodup)(hi:X.N[i]? =some x)(hx:Loc X.env.scope x)(he:PE X e te)(hs:swapsWith e (some (.Name x pos')) pos.line X.env=pure false:=by rfl)(hf:X.fn x=true\/X.env.scope.names.lookup x=some .local:=by first|exact .inl rfl|exact .inr rfl|assumption) :
  PS X (.Assign [.Name x pos'] e pos) (zd te (nS i)):=by
 intro pins s σ H D I h;refine wpAny_Assign_Name (ae (he pins s σ H _ I h) fun v s1 ⟨y,H1,I1,r1,q1⟩=> ?_) hs;exact dh I1 hN hi hx r1 (fun s2 I2=>⟨_,H1,I2,q1⟩) hf
noncomputable def wk(c:TT)(tb:TS):TS:=fun D σ H=>∃W:Nat->St->Hp->Prop,(∃m,W m σ H)/\∀m σ H,W m σ H ->
 c σ H fun b H1=>if b=true then∃N:St->Hp->Prop,(∀σ' H',N σ' H' ->∃m',m' <m/\W m' σ' H')/\tb {D with nx:=N,ct:=N,bk:=D.nx} σ H1 else D.nx σ H1
theorem qL{c:Expr}{body:List Stmt}{tc:TT}{tb:TS}(hp:PassesOwn (model X.prog X.w) X.A X.env X.xe)(hc:PT X c tc)(hb:jW X body tb):PS X (.While c body [] pos) (wk tc tb):=by
 intro pins s σ H D I h;obtain⟨W,⟨m0,w0⟩,turn⟩:=h;refine wpAny_While (codeAny_whileLoop (fun n s' =>∃σ' H',Inv X pins σ' H' s' /\W n σ' H') ?_ m0 ⟨σ,H,I,w0⟩);rintro n s1 ⟨σ1,H1,I1,w1⟩;refine CV hp (ae (hc pins s1 σ1 H1 _ I1 (turn n σ1 H1 w1)) fun b s2 hpq=> ?_);obtain⟨H2,I2,q2⟩:=hpq;cases b with
 | true =>
  obtain⟨N,hN,q2⟩:=q2;rw[BK rfl];refine CV hp (ae (hb pins s2 σ1 H2 _ I2 q2) fun f s3 q3=> ?_);cases f with
  | next =>
   obtain⟨σ3,H3,I3,n3⟩:=q3;obtain⟨m',hm,w3⟩:=hN σ3 H3 n3;exact⟨m',hm,σ3,H3,I3,w3⟩
  | cont =>
   obtain⟨σ3,H3,I3,n3⟩:=q3;obtain⟨m',hm,w3⟩:=hN σ3 H3 n3;exact⟨m',hm,σ3,H3,I3,w3⟩
  | brk=>exact q3
  | ret v=>exact q3
 | false =>
  rw[BI BC];exact DF ⟨σ1,H2,I2,q2⟩
end
structure It where
 go:Nat->Hp->Prop
 yld:Nat->Hp->V->Hp->Prop
 stop:Nat->Hp->Prop
noncomputable def ee(X:Cx)(pins:List (Addr×Obj))(H:Hp)(b:Addr):Prop :=
 H b=none/\b≠X.env.locals/\b∉X.fs/\(b∈X.ex\/X.s₀.heap.objs.size<=b)/\(∀x c,X.env.cells.lookup x=some c->c≠b)/\∀p∈X.pn++pins,p.1≠b
theorem Inv.fpOk{X:Cx}{pins:List (Addr×Obj)}{σ:St}{H H' :Hp}{s:Shared}{b:Addr}(I:Inv X pins σ H s)(hb:s.heap.objs.size<=b)(hn:H' b=none):ee X pins H' b:=by
 refine⟨hn,C7 (BV I.lt hb),I.nofs hb,.inr (Ba I.sz hb),fun x c e z=> ?_,fun p hp z=> ?_⟩
 ·obtain⟨v,q⟩:=I.cell x c e
  exact absurd (BV q.lt (by rw[z];exact hb)) (CA _)
 ·exact absurd (BV (BE (I.pin p hp).1) (by rw[z];exact hb)) (CA _)
structure oz(P:Program)(w:World)(K:W.Frag)(tg:Expr)(J:It)(fp:List Addr)(it:Addr)(tn:Nat->Heap->Prop):Prop where
 mem:it∈fp
 obj:∀i h,tn i h->∀b∈fp,∃o,h.get? b=some o/\∀v,o.data≠.cell v
 keep:∀i h h',tn i h->(∀b∈fp,∀o,h.get? b=some o->h'.get? b=some o)->tn i h'
 item:∀(X:Cx),X.prog=P->X.w=w->X.K=K->X.calm=true->∀(i:Nat)(pins:List (Addr×Obj))(s:Shared)(σ:St)(H:Hp)(E:Value->Shared->Prop),Inv X pins σ H s->(∀b∈fp,ee X pins H b)->tn i s.heap->J.go i H ->
  wpAny (model P w) X.A (pyNext (.ref it)) (fun r s1=>∃u,r=some u /\
   wpAny (model P w) X.A (letOwnedTupleGo tg (.ref it) u) (fun _ s2=>∃x H',Inv X pins σ H' s2/\RelV x u/\J.yld i H x H' /\tn (i+1) s2.heap/\∀b∈fp,H' b=none) E s1) E s
 done:∀(X:Cx),X.prog=P->X.w=w->X.K=K->X.calm=true->∀(i:Nat)(pins:List (Addr×Obj))(s:Shared)(σ:St)(H:Hp)(E:Value->Shared->Prop),Inv X pins σ H s->(∀b∈fp,ee X pins H b)->tn i s.heap->J.stop i H ->
  wpAny (model P w) X.A (pyNext (.ref it)) (fun r s1=>r=none/\Inv X pins σ H s1) E s
 self:∀(A:Around)(i:Nat)(s:Shared)(Q:Value->Shared->Prop)(E:Value->Shared->Prop),tn i s.heap->Q (.ref it) s->wpAny (model P w) A (pyIter (.ref it)) Q E s
noncomputable abbrev TI:=St->Hp->(It->Hp->Prop)->Prop
noncomputable def PIE(X:Cx)(pins:List (Addr×Obj))(σ:St)(tg:Expr)(R:It->Hp->Prop)(itv:Value)(s2:Shared):Prop :=
 ∃(it:Addr)(fp:List Addr)(tn:Nat->Heap->Prop)(J:It)(H' :Hp),itv=.ref it/\Inv X pins σ H' s2/\oz X.prog X.w X.K tg J fp it tn/\tn 0 s2.heap/\(∀b∈fp,ee X pins H' b)/\R J H'
noncomputable def PI(X:Cx)(tg iter:Expr)(wi:TI):Prop :=
 ∀(pins:List (Addr×Obj))(s:Shared)(σ:St)(H:Hp)(R:It->Hp->Prop),Inv X pins σ H s->wi σ H R ->
  wpAny (model X.prog X.w) X.A (eval iter X.env) (fun v s1=>wpAny (model X.prog X.w) X.A (pyIter v) (PIE X pins σ tg R) X.xe s1) X.xe s
theorem nR{M:Model}{A:Around}{E:Value->Shared->Prop}{s:Shared}{tg:Expr}{it:Addr}{u:Value}{o:Obj}{n:String}{vs:Array Value}{Q:Unit->Shared->Prop}(ho:s.heap.get? it=some o)(hc:o.cls=.type n)(hd:o.data=.fields vs)
    (hn:["enumerate","zip","dict_itemiterator","dict_reverseitemiterator","odict_iterator","itertools.zip_longest","itertools.pairwise"].contains n=false) (hQ:Q () s):wpAny M A (letOwnedTupleGo tg (.ref it) u) Q E s:=by
  unfold letOwnedTupleGo
  cases tg<;>first
    | exact BG hQ
    | (cases u<;>first
        | exact BG hQ
        | (refine A8 (wpAny_load ho ?_)
           rw[hc,hd];show wpAny M A (if(["enumerate","zip","dict_itemiterator","dict_reverseitemiterator","odict_iterator","itertools.zip_longest","itertools.pairwise"].contains n&&vs[0]? ==some (rawInt _))=true then _ else _) Q E s;rw[BI (by intro h;rw[hn,DE]at h;cases h)];exact BG hQ))
noncomputable def Itl(K:W.Frag)(a:Addr):It :=
 ⟨fun i H=>∃xs x,aj K H a xs/\xs[i]? =some x,fun i H x H' =>H' =H/\∀xs,aj K H a xs->xs[i]? =some x,fun i H=>∃xs,aj K H a xs/\xs.length<=i⟩
noncomputable def Itt(K:W.Frag)(a:Addr):It :=
 ⟨fun i H=>∃xs x,bI K H a xs/\xs[i]? =some x,fun i H x H' =>H' =H/\∀xs,bI K H a xs->xs[i]? =some x,fun i H=>∃xs,bI K H a xs/\xs.length<=i⟩
noncomputable def A1(lo:Int)(n:Nat):It:=⟨fun i _=>i<n,fun i H x H' =>H' =H/\x=.int (lo+i),fun i _=>n<=i⟩
theorem nt{P:Program}{w:World}{K:W.Frag}{tg:Expr}(a it:Addr):oz P w K tg (Itl K a) [it] it (fun i h=>h.IsListIter it a i) where
 mem:=by simp
 obj:=fun i h st b hb=>by
  have e:b=it:=by simpa using hb
  subst e;obtain⟨o,e,c,d⟩:=st;exact⟨o,e,fun v z=>by rw[d]at z;cases z⟩
 keep:=fun i h h' st k=>st.at fun o e=>k it (by simp) o e
 item:=by
  intro X hP hw hK hc i pins s σ H E I hf st hg;subst hP hw hK;obtain⟨xs,x,hq,hx⟩:=hg;obtain⟨its,rv,p,hz⟩:=I.list hq;obtain⟨u,hu,ru⟩:=rv.get hx;obtain⟨f0,f1,f2,f3,f4,f5⟩:=hf it (by simp);refine wpAny_pyNext_list_item st p.isList (x:=u) (by simpa using hu) fun h' st' sb=> ?_;have I1:Inv X pins σ H {s with heap:=h'}:=I.turned (t' :=s.toks) (fun b o hb e=>(sb.2 b hb).trans e) f0 f1 f3 f4 f5;obtain⟨o,e,c,d⟩:=id st';exact⟨u,rfl,nR (s:={s with heap:=h'}) e c d (by decide) ⟨x,H,I1,ru,⟨rfl,fun ys hy=>by rw[I.list_inj hy hq];exact hx⟩,st',fun b hb=>(hf b hb).1⟩⟩
 done:=by
  intro X hP hw hK hc i pins s σ H E I hf st hg;subst hP hw hK;obtain⟨xs,hq,hx⟩:=hg;obtain⟨its,rv,p,hz⟩:=I.list hq;obtain⟨f0,f1,f2,f3,f4,f5⟩:=hf it (by simp);have hl:=rv.length;exact wpAny_pyNext_list_end (I.ok.hd hc) st p.isList (by simp;omega) fun h' eb=>⟨rfl,I.turned (t' :=s.toks) (fun b o hb e=>eb b o hb e) f0 f1 f3 f4 f5⟩
 self:=fun _ _ _ _ _ st h=>wpAny_pyIter_listiter st h
theorem lG{P:Program}{w:World}{K:W.Frag}{tg:Expr}(a it:Addr):oz P w K tg (Itt K a) [it] it (fun i h=>h.IsTupleIter it a i) where
 mem:=by simp
 obj:=fun i h st b hb=>by
  have e:b=it:=by simpa using hb
  subst e;obtain⟨o,e,c,d⟩:=st;exact⟨o,e,fun v z=>by rw[d]at z;cases z⟩
 keep:=fun i h h' st k=>st.at fun o e=>k it (by simp) o e
 item:=by
  intro X hP hw hK hc i pins s σ H E I hf st hg;subst hP hw hK;obtain⟨xs,x,hq,hx⟩:=hg;obtain⟨its,rv,p,hz⟩:=I.tuple hq;obtain⟨u,hu,ru⟩:=rv.get hx;obtain⟨f0,f1,f2,f3,f4,f5⟩:=hf it (by simp);refine wpAny_pyNext_tuple_item st (show s.heap.IsTuple a its.toArray from p) (x:=u) (by simpa using hu) fun h' st' sb=> ?_;have I1:Inv X pins σ H {s with heap:=h'}:=I.turned (t' :=s.toks) (fun b o hb e=>(sb.2 b hb).trans e) f0 f1 f3 f4 f5;obtain⟨o,e,c,d⟩:=id st';exact⟨u,rfl,nR (s:={s with heap:=h'}) e c d (by decide) ⟨x,H,I1,ru,⟨rfl,fun ys hy=>by rw[I.tuple_inj hy hq];exact hx⟩,st',fun b hb=>(hf b hb).1⟩⟩
 done:=by
  intro X hP hw hK hc i pins s σ H E I hf st hg;subst hP hw hK;obtain⟨xs,hq,hx⟩:=hg;obtain⟨its,rv,p,hz⟩:=I.tuple hq;obtain⟨f0,f1,f2,f3,f4,f5⟩:=hf it (by simp);have hl:=rv.length;exact wpAny_pyNext_tuple_end (I.ok.hd hc) st (show s.heap.IsTuple a its.toArray from p) (by simp;omega) fun h' eb=>⟨rfl,I.turned (t' :=s.toks) (fun b o hb e=>eb b o hb e) f0 f1 f3 f4 f5⟩
 self:=fun _ _ _ _ _ st h=>wpAny_pyIter_tupleiter st h
theorem lH{P:Program}{w:World}{K:PySem.W.Frag}{tg:Expr}(it:Addr)(lo:Int)(n:Nat):oz P w K tg (A1 lo n) [it] it (fun i h=>IsRangeIter h it (lo+(i:Nat)*1) ((n:Int)-(i:Nat)) 1) where
 mem:=by simp
 obj:=fun i h st b hb=>by
  have e:b=it:=by simpa using hb
  subst e;exact⟨_,st,fun v z=>by
   have z' :Data.fields _=Data.cell v:=z;cases z'⟩
 keep:=fun i h h' st k=>k it (by simp) _ st
 item:=by
  intro X hP hw hK hc i pins s σ H E I hf st hg;subst hP hw hK;obtain⟨f0,f1,f2,f3,f4,f5⟩:=hf it (by simp);have W:=Walks.range (prog:=X.prog) (w:=X.w) (I.ok.hd hc) it lo 1 n;refine W.item i s _ _ hg st fun v h' tk hv st' kk=> ?_;obtain⟨t,rfl⟩:=hv;have I1:Inv X pins σ H {s with heap:=h',toks:=tk}:=I.turned (fun b o hb e=>kk b o (by simpa using hb) e) f0 f1 f3 f4 f5;refine⟨_,rfl,nR (s:={s with heap:=h',toks:=tk}) (n:="range_iterator") st' rfl rfl (by decide) ⟨.int (lo+i),H,I1,⟨t,?_⟩,⟨rfl,rfl⟩,st',fun b hb=>(hf b hb).1⟩⟩;rw[Int.mul_one]
 done:=by
  intro X hP hw hK hc i pins s σ H E I hf st hg;subst hP hw hK;obtain⟨f0,f1,f2,f3,f4,f5⟩:=hf it (by simp);exact wpAny_pyNext_range_end (I.ok.hd hc) st (by have:n<=i:=hg;omega) fun h' eb=>⟨rfl,I.turned (t' :=s.toks) (fun b o hb e=>eb b o hb e) f0 f1 f3 f4 f5⟩
 self:=fun _ _ _ _ _ st h=>wpAny_pyIter_rangeiter st h
section
variable{X:Cx}{tg:Expr}
noncomputable def AY(K:W.Frag)(tl:TE):TI:=fun σ H R=>tl σ H fun x H1=>∃a,x=.ref a/\(∃xs,aj K H1 a xs)/\R (Itl K a) H1
noncomputable def iTup(K:W.Frag)(tl:TE):TI:=fun σ H R=>tl σ H fun x H1=>∃a,x=.ref a/\(∃xs,bI K H1 a xs)/\R (Itt K a) H1
theorem ij{l:Expr}{tl:TE}(hl:PE X l tl):PI X tg l (AY X.K tl):=by
 intro pins s σ H R I h;refine ae (hl pins s σ H _ I h) fun v s1 hpq=> ?_;obtain⟨x,H1,I1,r1,q1⟩:=hpq;obtain⟨a,e,⟨xs,hq⟩,q⟩:=q1;subst e;cases r1;obtain⟨its,rv,p,hz⟩:=I1.list hq;refine wpAny_pyIter_list p.isList ?_;refine⟨s1.heap.objs.size,[s1.heap.objs.size],_,_,H1,rfl,I1.kept (t' :=s1.toks) fun b o e=>BA _ e,nt a _,⟨_,BR _ rfl,rfl,rfl⟩,fun b hb=> ?_,q⟩;have e:b=s1.heap.objs.size:=by simpa using hb
 subst e;exact I1.fpOk (BD _) (I1.hok.fresh (BD _))
theorem qX{l:Expr}{tl:TE}(hl:PE X l tl):PI X tg l (iTup X.K tl):=by
 intro pins s σ H R I h;refine ae (hl pins s σ H _ I h) fun v s1 hpq=> ?_;obtain⟨x,H1,I1,r1,q1⟩:=hpq;obtain⟨a,e,⟨xs,hq⟩,q⟩:=q1;subst e;cases r1;obtain⟨its,rv,p,hz⟩:=I1.tuple hq;refine wpAny_pyIter_tuple (show s1.heap.IsTuple a its.toArray from p) ?_;refine⟨s1.heap.objs.size,[s1.heap.objs.size],_,_,H1,rfl,I1.kept (t' :=s1.toks) fun b o e=>BA _ e,lG a _,⟨_,BR _ rfl,rfl,rfl⟩,fun b hb=> ?_,q⟩;have e:b=s1.heap.objs.size:=by simpa using hb
 subst e;exact I1.fpOk (BD _) (I1.hok.fresh (BD _))
theorem jy{pins:List (Addr×Obj)}{σ:St}{H:Hp}{s:Shared}{R:It->Hp->Prop}{E:Value->Shared->Prop}{lo hi:Int}{t u v:Tok}{tk:Nat}(I:Inv X pins σ H s)(h1: -(2^62)<=lo)(h2:lo<2^62)(h3: -(2^62)<=hi)(h4:hi<2^62)
  (q:R (A1 lo (hi-lo).toNat) H):wpAny (model X.prog X.w) X.A (pyIter (.ref s.heap.objs.size)) (PIE X pins σ tg R) E {s with heap:=s.heap.push {cls:=.type "range",data:=.fields #[.int lo t,.int hi u,.int 1 v]},toks:=tk}:=by
 refine wpAny_pyIter_range (IsRange.new ..) (small_one h1 h2 h3 h4) ?_;have I1:Inv X pins σ H {s with heap:=s.heap.push {cls:=.type "range",data:=.fields #[.int lo t,.int hi u,.int 1 v]},toks:=tk}:=I.kept fun b o e=>BA _ e
 refine⟨(s.heap.push {cls:=.type "range",data:=.fields #[.int lo t,.int hi u,.int 1 v]}).objs.size,[(s.heap.push {cls:=.type "range",data:=.fields #[.int lo t,.int hi u,.int 1 v]}).objs.size],_,_,H,rfl,
  I1.kept (t' :=tk) fun b o e=>BA _ e,lH _ lo (hi-lo).toNat,?_,fun b hb=> ?_,q⟩
 ·have e1:lo+((0:Nat):Int)*1=lo:=by simp
  have e2:(((hi-lo).toNat:Nat):Int)-((0:Nat):Int)=Builtin.Range.rangeSize lo hi 1:=by rw[rangeSize_one];split<;>omega
  show IsRangeIter _ _ (lo+((0:Nat):Int)*1) ((((hi-lo).toNat:Nat):Int)-((0:Nat):Int)) 1;rw[e1,e2];exact BR _ rfl
 ·have e:b=(s.heap.push {cls:=.type "range",data:=.fields #[.int lo t,.int hi u,.int 1 v]}).objs.size:=by simpa using hb
  subst e;exact I1.fpOk (BD _) (I1.hok.fresh (BD _))
noncomputable def AX(ta:TA):TI:=fun σ H R=>ta σ H fun vs H1=>∃j:Int,vs=[.int j]/\ -(2^62)<=j/\j<2^62/\R (A1 0 j.toNat) H1
noncomputable def AW(ta:TA):TI:=fun σ H R=>ta σ H fun vs H1=>∃i j:Int,vs=[.int i,.int j]/\(-(2^62)<=i/\i<2^62/\ -(2^62)<=j/\j<2^62)/\R (A1 i (j-i).toNat) H1
theorem oJ{a:Expr}{ta:TA}{p pos:Pos}(hg:Gl X "range")(hm:X.mg "range"=none)(ha:PA X [a] ta)(hs:starEach [a] X.env=[(false,eval a X.env)]:=by rfl):PI X tg (.Call (.Name "range" p) [a] [] pos) (AX ta):=by
 intro pins s σ H R I h;refine Call_ (dX I hg hm boot_range (B9 (ae (ha pos pins s σ H _ I h) fun us s1 ⟨vs,H1,I1,r1,q1⟩=> ?_) hs rfl));obtain⟨j,e,q1,q2,q⟩:=q1;subst e;cases r1 with
 | cons r rr =>
  cases rr;obtain⟨t,rfl⟩:=r;exact call_range_1 (jy I1 (by omega) (by omega) q1 q2 (by simpa using q))
theorem oH{a b:Expr}{ta:TA}{p pos:Pos}(hg:Gl X "range")(hm:X.mg "range"=none)(ha:PA X [a,b] ta)(hs:starEach [a,b] X.env=[(false,eval a X.env),(false,eval b X.env)]:=by rfl)(hs2:starEach [b] X.env=[(false,eval b X.env)]:=by rfl) :
  PI X tg (.Call (.Name "range" p) [a,b] [] pos) (AW ta):=by
 intro pins s σ H R I h;refine Call_ (dX I hg hm boot_range (B9 (ae (ha pos pins s σ H _ I h) fun us s1 ⟨vs,H1,I1,r1,q1⟩=> ?_) (by rw[hs,hs2]) (by rw[hs2];rfl)));obtain⟨i,j,e,⟨q1,q2,q3,q4⟩,q⟩:=q1;subst e;cases r1 with
 | cons r rr =>
  cases rr with
  | cons r' rr =>
   cases rr;obtain⟨t,rfl⟩:=r;obtain⟨t',rfl⟩:=r';exact call_range_2 (jy I1 q1 q2 q3 q4 q)
noncomputable def tFor(wi:TI)(g:TG)(tb:TS):TS:=fun D σ H=>wi σ H fun J H1=>∃W:Nat->Nat->St->Hp->Prop,(∃m,W 0 m σ H1)/\∀i m σ H,W i m σ H ->
 (J.stop i H/\D.nx σ H)\/(J.go i H/\∃N:St->Hp->Prop,(∀σ' H',N σ' H' ->∃m',m' <m/\W (i+1) m' σ' H')/\∀x H',J.yld i H x H' ->g x σ H' fun σ2 H2=>tb {D with nx:=N,ct:=N,bk:=D.nx} σ2 H2)
noncomputable def gH(fp:List Addr)(h:Heap):List (Addr×Obj):=fp.filterMap fun b=>(h.get? b).map fun o=>(b,o)
theorem cQ{fp:List Addr}{h:Heap}{b:Addr}{o:Obj}(hb:b∈fp)(e:h.get? b=some o):(b,o)∈gH fp h:=List.mem_filterMap.mpr ⟨b,hb,by rw[e];rfl⟩
theorem oM{fp:List Addr}{h:Heap}{p:Addr×Obj}(hp:p∈gH fp h):p.1∈fp/\h.get? p.1=some p.2:=by
 obtain⟨b,hb,e⟩:=List.mem_filterMap.mp hp;cases q:h.get? b with
 | none=>rw[q]at e;cases e
 | some o =>
  rw[q]at e;have e' :(b,o)=p:=Bc e;subst e';exact⟨hb,q⟩
theorem Inv.pinned{pins:List (Addr×Obj)}{σ:St}{H:Hp}{s:Shared}{fp:List Addr}(I:Inv X pins σ H s)(hf:∀b∈fp,ee X pins H b)(ho:∀b∈fp,∃o,s.heap.get? b=some o/\∀v,o.data≠.cell v):Inv X (pins++gH fp s.heap) σ H s :=
 I.pins_of fun p hp=>(Bq.mp hp).elim (fun z=>I.pin p (Bk _ z)) fun z=>by
  obtain⟨hb,e⟩:=oM z;obtain⟨f0,f1,f2,_⟩:=hf p.1 hb;obtain⟨o,e',d⟩:=ho p.1 hb;rw[e]at e';cases e';exact⟨e,f0,f1,f2,d⟩
theorem Inv.unpinned{pins pl:List (Addr×Obj)}{σ:St}{H:Hp}{s:Shared}(I:Inv X (pins++pl) σ H s):Inv X pins σ H s:=I.pins_of fun p hp=>I.pin p (Bk _ (Cw _ hp))
theorem qO{iter:Expr}{body:List Stmt}{wi:TI}{g:TG}{tb:TS}{pos:Pos}(hp:PassesOwn (model X.prog X.w) X.A X.env X.xe)(hc:X.calm=true)(hi:PI X tg iter wi)(hg:PG X tg g)(hb:jW X body tb)
  (hs:∀x,foldedSetIterable iter X.env x=pure x:=by intro _;rfl):PS X (.For tg iter body [] pos) (tFor wi g tb):=by
 intro pins s σ H D I h;refine wpAny_For (ae (hi pins s σ H _ I h) fun v s1 h1=>ae h1 fun itv s2 h2=> ?_) hs;obtain⟨it,fp,tn,J,H2,e,I2,T,st2,f2,W,⟨m0,w0⟩,turn⟩:=h2;subst e;have stat:∀{H' :Hp},(∀b∈fp,H' b=none)->∀b∈fp,ee X pins H' b:=fun hn b hb=>⟨hn b hb,(f2 b hb).2⟩;refine codeAny_forLoop_any (fun n s' =>∃i σ' H',Inv X pins σ' H' s' /\tn i s'.heap/\(∀b∈fp,H' b=none)/\W i n σ' H') ?_ m0 ⟨0,σ,H2,I2,st2,fun b hb=>(f2 b hb).1,w0⟩;rintro n s3 ⟨i,σ3,H3,I3,st3,fr3,w3⟩
 rcases turn i n σ3 H3 w3 with⟨stop,qn⟩|⟨go,N,hN,step⟩
 ·refine CV hp (ae (T.done X rfl rfl rfl hc i pins s3 σ3 H3 X.xe I3 (stat fr3) st3 stop) fun r s4 hpq=> ?_)
  obtain⟨hr,I4⟩:=hpq;subst hr;exact DF ⟨σ3,H3,I4,qn⟩
 ·refine CV hp (ae (T.item X rfl rfl rfl hc i pins s3 σ3 H3 X.xe I3 (stat fr3) st3 go) fun r s4 hpq=> ?_)
  obtain⟨u,hr,h4⟩:=hpq;subst hr;refine CV hp (ae h4 fun _ s5 hpq=> ?_);obtain⟨x,H5,I5,r5,y5,st5,fr5⟩:=hpq;have I5' :=I5.pinned (stat fr5) (T.obj _ _ st5);refine CV hp (ae (hg _ s5 σ3 H5 x u _ I5' r5 (step x H5 y5)) fun _ s6 hpq=> ?_);obtain⟨σ6,H6,I6,q6⟩:=hpq;refine CV hp (ae (hb _ s6 σ6 H6 _ I6 q6) fun f s7 q7=> ?_);have again:∀{σ7:St}{H7:Hp},Inv X (pins++gH fp s5.heap) σ7 H7 s7->N σ7 H7->∃m,m<n/\∃i σ' H',Inv X pins σ' H' s7/\tn i s7.heap/\(∀b∈fp,H' b=none)/\W i m σ' H' :=fun{σ7 H7} I7 n7=>by
   obtain⟨m',hm,w7⟩:=hN σ7 H7 n7;refine⟨m',hm,i+1,σ7,H7,I7.unpinned,T.keep _ _ _ st5 fun b hb o e=>(I7.pin (b,o) (Bk _ (Bk _ (cQ hb e)))).1,fun b hb=> ?_,w7⟩;obtain⟨o,e,d⟩:=T.obj _ _ st5 b hb;exact(I7.pin (b,o) (Bk _ (Bk _ (cQ hb e)))).2.1
  cases f with
  | next=>obtain⟨σ7,H7,I7,n7⟩:=q7;exact again I7 n7
  | cont=>obtain⟨σ7,H7,I7,n7⟩:=q7;exact again I7 n7
  | brk=>obtain⟨σ7,H7,I7,q7⟩:=q7;exact⟨σ7,H7,I7.unpinned,q7⟩
  | ret v=>obtain⟨x7,σ7,H7,I7,r7,q7⟩:=q7;exact⟨x7,σ7,H7,I7.unpinned,r7,q7⟩
end
noncomputable abbrev R2:=V->V->Hp->VK->Prop
noncomputable def cO(X:Cx)(f:Value->Value->Sem Value)(r:R2):Prop :=
 ∀(pins:List (Addr×Obj))(s:Shared)(σ:St)(H:Hp)(x y:V)(v u:Value)(Q:VK),Inv X pins σ H s->RelV x v->RelV y u->r x y H Q ->
  wpAny (model X.prog X.w) X.A (f v u) (EP X pins σ Q) X.xe s
noncomputable def UnR(X:Cx)(f:Value->Sem Value)(r:V->Hp->VK->Prop):Prop :=
 ∀(pins:List (Addr×Obj))(s:Shared)(σ:St)(H:Hp)(x:V)(v:Value)(Q:VK),Inv X pins σ H s->RelV x v->r x H Q ->
  wpAny (model X.prog X.w) X.A (f v) (EP X pins σ Q) X.xe s
noncomputable def ay(X:Cx)(f:Value)(r:List V->Hp->VK->Prop):Prop :=
 ∀(pins:List (Addr×Obj))(s:Shared)(σ:St)(H:Hp)(xs:List V)(us:List Value)(Q:VK),Inv X pins σ H s->aI xs us->r xs H Q ->
  wpAny (model X.prog X.w) X.A (call f us) (EP X pins σ Q) X.xe s
noncomputable def TruR(X:Cx)(r:V->Hp->(Bool->Hp->Prop)->Prop):Prop :=
 ∀(pins:List (Addr×Obj))(s:Shared)(σ:St)(H:Hp)(x:V)(v:Value)(Q:Bool->Hp->Prop),Inv X pins σ H s->RelV x v->r x H Q ->
  wpAny (model X.prog X.w) X.A (truthy v) (TP X pins σ Q) X.xe s
noncomputable def tOp(r:R2)(ta tb:TE):TE:=fun σ H Q=>ta σ H fun x H1=>tb σ H1 fun y H2=>r x y H2 Q
noncomputable def tUn(r:V->Hp->VK->Prop)(ta:TE):TE:=fun σ H Q=>ta σ H fun x H1=>r x H1 Q
noncomputable def rI(C:Int->Int->Prop)(g:Int->Int->V):R2:=fun x y H Q=>∃i j,x=.int i/\y=.int j/\C i j/\Q (g i j) H
noncomputable def uJ(g:Int->Int->V):R2:=fun x y H Q=>∃i j,x=.int i/\y=.int j/\Q (g i j) H
noncomputable def rU(g:Int->V):V->Hp->VK->Prop:=fun x H Q=>∃i,x=.int i/\Q (g i) H
section
variable{X:Cx}{a b c:Expr}{ta tb tc:TE}{pos:Pos}
theorem yZ(ha:PE X a ta)(hb:PE X b tb){pins:List (Addr×Obj)}{s:Shared}{σ:St}{H:Hp}{R:V->V->Hp->Prop}(I:Inv X pins σ H s)
  (h:ta σ H fun x H1=>tb σ H1 fun y H2=>R x y H2) {Q:Value->Shared->Prop} {f:Value->Value->Sem Value}
  (hf:∀v u s2 x y H2,Inv X pins σ H2 s2->RelV x v->RelV y u->R x y H2->wpAny (model X.prog X.w) X.A (f v u) Q X.xe s2) :
  wpAny (model X.prog X.w) X.A (eval a X.env) (fun v s₁=>wpAny (model X.prog X.w) X.A (eval b X.env) (fun u s₂=>wpAny (model X.prog X.w) X.A (f v u) Q X.xe s₂) X.xe s₁) X.xe s:=by
 refine ae (ha pins s σ H _ I h) fun v s1 hpq=> ?_;obtain⟨x,H1,I1,r1,q1⟩:=hpq;refine ae (hb pins s1 σ H1 _ I1 q1) fun u s2 hpq=> ?_;obtain⟨y,H2,I2,r2,q2⟩:=hpq;exact hf v u s2 x y H2 I2 r1 r2 q2
theorem qd{op:Operator}{r:R2}(ho:cO X (binaryOp op) r)(ha:PE X a ta)(hb:PE X b tb):PE X (.BinOp a op b pos) (tOp r ta tb):=by
 intro pins s σ H Q I h;exact wpAny_BinOp (yZ ha hb I h fun v u s2 x y H2 I2 rx ry q=>ho pins s2 σ H2 x y v u Q I2 rx ry q)
theorem AA{op:UnaryOp}{r:V->Hp->VK->Prop}(ho:UnR X (unaryOp op) r)(ha:PE X a ta):PE X (.UnaryOp op a pos) (tUn r ta):=by
 intro pins s σ H Q I h;exact UnaryOp_ (ae (ha pins s σ H _ I h) fun v s1 ⟨x,H1,I1,r1,q1⟩=>ho pins s1 σ H1 x v Q I1 r1 q1)
theorem AL{f:Value->Value->Sem Value}{C:Int->Int->Prop}{g:Int->Int->Int}
  (rule:∀(i j:Int)(t u:Tok)(s:Shared)(Q:Value->Shared->Prop)(E:Value->Shared->Prop),C i j->Q (.int (g i j) s.toks) {s with toks:=s.toks+1}->wpAny (model X.prog X.w) X.A (f (.int i t) (.int j u)) Q E s) :
  cO X f (rI C fun i j=>.int (g i j)):=by
 intro pins s σ H x y v u Q I rx ry h;obtain⟨i,j,rfl,rfl,hc,q⟩:=h;obtain⟨t,rfl⟩:=rx;obtain⟨t',rfl⟩:=ry;exact rule i j t t' s _ _ hc ⟨.int (g i j),H,I.tok _,⟨_,rfl⟩,q⟩
theorem AK{f:Value->Value->Sem Value}{g:Int->Int->Int}
  (rule:∀(i j:Int)(t u:Tok)(s:Shared)(Q:Value->Shared->Prop)(E:Value->Shared->Prop),Q (.int (g i j) s.toks) {s with toks:=s.toks+1}->wpAny (model X.prog X.w) X.A (f (.int i t) (.int j u)) Q E s) :
  cO X f (uJ fun i j=>.int (g i j)):=by
 intro pins s σ H x y v u Q I rx ry h;obtain⟨i,j,rfl,rfl,q⟩:=h;obtain⟨t,rfl⟩:=rx;obtain⟨t',rfl⟩:=ry;exact rule i j t t' s _ _ ⟨.int (g i j),H,I.tok _,⟨_,rfl⟩,q⟩
theorem ug{f:Value->Value->Sem Value}{g:Int->Int->Bool}
  (rule:∀(i j:Int)(t u:Tok)(s:Shared)(Q:Value->Shared->Prop)(E:Value->Shared->Prop),Q (.bool (g i j)) s->wpAny (model X.prog X.w) X.A (f (.int i t) (.int j u)) Q E s) :
  cO X f (uJ fun i j=>.bl (g i j)):=by
 intro pins s σ H x y v u Q I rx ry h;obtain⟨i,j,rfl,rfl,q⟩:=h;obtain⟨t,rfl⟩:=rx;obtain⟨t',rfl⟩:=ry;exact rule i j t t' s _ _ ⟨.bl (g i j),H,I,rfl,q⟩
noncomputable def CPow(i j:Int):Prop:=0<=j/\j<=1000000/\i.natAbs<2^64
noncomputable def yu(i j:Int):Prop:=(-(2^64)<i/\i<2^64)\/(-(2^64)<j/\j<2^64)
theorem yu.ok{i j:Int}(h:yu i j):IntMulOk i j:=by
 rcases h with⟨h1,h2⟩|⟨h1,h2⟩
 ·exact .of_left (intBits_le_64 h1 h2)
 ·exact .of_right (intBits_le_64 h1 h2)
theorem xV:cO X (binaryOp .Add) (uJ fun i j=>.int (i+j)):=AK fun _ _ _ _ _ _ _ q=>add_int q
theorem xP:cO X (binaryOp .Sub) (uJ fun i j=>.int (i-j)):=AK fun _ _ _ _ _ _ _ q=>sub_int q
theorem xR:cO X (binaryOp .Mult) (rI yu fun i j=>.int (i*j)):=AL fun _ _ _ _ _ _ _ hc q=>mul_int q hc.ok
theorem xS:cO X (binaryOp .Mod) (rI (fun _ j=>0<j) fun i j=>.int (i%j)):=AL fun i j _ _ _ _ _ hc q=>by
 have h1:(0:Int)<j:=hc;exact mod_int' (by omega) (by rw[Int.fmod_eq_emod_of_nonneg i (by omega)];exact q)
theorem xQ:cO X (binaryOp .LShift) (rI CPow fun i j=>.int (i*2^j.toNat)):=AL fun _ _ _ _ _ _ _ hc q=>lshift_int_small hc.1 hc.2.1 hc.2.2 q
theorem unI{f:Value->Sem Value}{g:Int->Int}
  (rule:∀(i:Int)(t:Tok)(s:Shared)(Q:Value->Shared->Prop)(E:Value->Shared->Prop),Q (.int (g i) s.toks) {s with toks:=s.toks+1}->wpAny (model X.prog X.w) X.A (f (.int i t)) Q E s) :
  UnR X f (rU fun i=>.int (g i)):=by
 intro pins s σ H x v Q I rx h;obtain⟨i,rfl,q⟩:=h;obtain⟨t,rfl⟩:=rx;exact rule i t s _ _ ⟨.int (g i),H,I.tok _,⟨_,rfl⟩,q⟩
theorem wV:UnR X (unaryOp .USub) (rU fun i=>.int (-i)):=unI fun _ _ _ _ _ q=>neg_int q
end
noncomputable def wx:V->V->Bool
 | .non,.non=>true| .non,.int _=>true| .int _,.non=>true| .non,.bl _=>true| .bl _,.non=>true| .non,.str _=>true| .str _,.non=>true
 | .int _,.int _=>true| .bl _,.bl _=>true| .str _,.str _=>true| .byt _,.byt _=>true
 | .int _,.str _=>true| .str _,.int _=>true| .bl _,.str _=>true| .str _,.bl _=>true
 | _,_=>false
noncomputable def rEq:R2:=fun x y H Q=>wx x y=true/\Q (.bl (decide (x=y))) H
noncomputable def rNe:R2:=fun x y H Q=>wx x y=true/\Q (.bl (!decide (x=y))) H
theorem na{i j:Int}:decide (V.int i=V.int j)=(i==j):=by
 rw[Cg];simp
theorem sR{i j:Bool}:decide (V.bl i=V.bl j)=(i==j):=by
 rw[Cg];simp
theorem nZ{i j:Str}:decide (V.str i=V.str j)=(i==j):=by
 rw[Cg];simp
theorem ng{i j:Array UInt8}:decide (V.byt i=V.byt j)=(i.toList==j.toList):=by
 rw[Cg];cases i;cases j;simp
section
variable{X:Cx}{a b c:Expr}{ta tb tc:TE}{pos:Pos}
theorem aQ{pins:List (Addr×Obj)}{σ:St}{H:Hp}{s:Shared}{Q:VK}{k k' :Bool}(I:Inv X pins σ H s)(q:Q (.bl k) H)(e:k=k'):EP X pins σ Q (.bool k') s:=by
 subst e;exact⟨.bl k,H,I,rfl,q⟩
theorem AJ:cO X (compareOp .Eq) rEq:=by
 intro pins s σ H x y v u Q I rx ry h;obtain⟨hs,q⟩:=h;cases x with
 | non =>
  cases rx;cases y with
  | non=>cases ry;exact PySem.EqNone.eq_none_none (aQ I q (by simp))
  | bl j=>cases ry;exact PySem.EqNone.eq_none_bool (aQ I q (by simp))
  | int j=>obtain⟨t',rfl⟩:=ry;exact PySem.EqNone.eq_none_int (aQ I q (by simp))
  | str j=>obtain⟨t',rfl⟩:=ry;exact PySem.EqNone.eq_none_str (aQ I q (by simp))
  | _=>exact absurd (show false=true from hs) BC
 | bl i =>
  cases rx;cases y with
  | non=>cases ry;exact PySem.EqNone.eq_bool_none (aQ I q (by simp))
  | bl j=>cases ry;exact eq_bool (aQ I q sR)
  | str j=>obtain⟨t',rfl⟩:=ry;exact PySem.EqMixed.eq_bool_str (aQ I q (by simp))
  | _=>exact absurd (show false=true from hs) BC
 | int i =>
  obtain⟨t,rfl⟩:=rx;cases y with
  | non=>cases ry;exact PySem.EqNone.eq_int_none (aQ I q (by simp))
  | int j=>obtain⟨t',rfl⟩:=ry;exact eq_int (aQ I q na)
  | str j=>obtain⟨t',rfl⟩:=ry;exact PySem.EqMixed.eq_int_str (aQ I q (by simp))
  | _=>exact absurd (show false=true from hs) BC
 | str i =>
  obtain⟨t,rfl⟩:=rx;cases y with
  | non=>cases ry;exact PySem.EqNone.eq_str_none (aQ I q (by simp))
  | bl j=>cases ry;exact PySem.EqMixed.eq_str_bool (aQ I q (by simp))
  | int j=>obtain⟨t',rfl⟩:=ry;exact PySem.EqMixed.eq_str_int (aQ I q (by simp))
  | str j=>obtain⟨t',rfl⟩:=ry;exact eq_str (aQ I q nZ)
  | _=>exact absurd (show false=true from hs) BC
 | byt i =>
  obtain⟨t,rfl⟩:=rx;cases y with
  | byt j=>obtain⟨t',rfl⟩:=ry;exact W.eq_bytes (aQ I q ng)
  | _=>exact absurd (show false=true from hs) BC
 | _=>cases y<;>exact absurd (show false=true from hs) BC
theorem AE:cO X (compareOp .NotEq) rNe:=by
 intro pins s σ H x y v u Q I rx ry h;obtain⟨hs,q⟩:=h;cases x with
 | non =>
  cases rx;cases y with
  | non=>cases ry;exact PySem.EqNone.ne_none_none (aQ I q (by simp))
  | bl j=>cases ry;exact PySem.EqNone.ne_none_bool (aQ I q (by simp))
  | int j=>obtain⟨t',rfl⟩:=ry;exact PySem.EqNone.ne_none_int (aQ I q (by simp))
  | str j=>obtain⟨t',rfl⟩:=ry;exact PySem.EqNone.ne_none_str (aQ I q (by simp))
  | _=>exact absurd (show false=true from hs) BC
 | bl i =>
  cases rx;cases y with
  | non=>cases ry;exact PySem.EqNone.ne_bool_none (aQ I q (by simp))
  | bl j=>cases ry;exact ne_bool (aQ I q (B4 not sR))
  | str j=>obtain⟨t',rfl⟩:=ry;exact PySem.EqMixed.ne_bool_str (aQ I q (by simp))
  | _=>exact absurd (show false=true from hs) BC
 | int i =>
  obtain⟨t,rfl⟩:=rx;cases y with
  | non=>cases ry;exact PySem.EqNone.ne_int_none (aQ I q (by simp))
  | int j=>obtain⟨t',rfl⟩:=ry;exact ne_int (aQ I q (B4 not na))
  | str j=>obtain⟨t',rfl⟩:=ry;exact PySem.EqMixed.ne_int_str (aQ I q (by simp))
  | _=>exact absurd (show false=true from hs) BC
 | str i =>
  obtain⟨t,rfl⟩:=rx;cases y with
  | non=>cases ry;exact PySem.EqNone.ne_str_none (aQ I q (by simp))
  | bl j=>cases ry;exact PySem.EqMixed.ne_str_bool (aQ I q (by simp))
  | int j=>obtain⟨t',rfl⟩:=ry;exact PySem.EqMixed.ne_str_int (aQ I q (by simp))
  | str j=>obtain⟨t',rfl⟩:=ry;exact ne_str (aQ I q (B4 not nZ))
  | _=>exact absurd (show false=true from hs) BC
 | byt i =>
  obtain⟨t,rfl⟩:=rx;cases y with
  | byt j=>obtain⟨t',rfl⟩:=ry;exact W.ne_bytes (aQ I q (B4 not ng))
  | _=>exact absurd (show false=true from hs) BC
 | _=>cases y<;>exact absurd (show false=true from hs) BC
theorem AF:cO X (compareOp .Lt) (uJ fun i j=>.bl (decide (i<j))):=ug fun _ _ _ _ _ _ _ q=>lt_int q
theorem AG:cO X (compareOp .LtE) (uJ fun i j=>.bl (decide (i<=j))):=ug fun _ _ _ _ _ _ _ q=>le_int q
theorem AH:cO X (compareOp .Gt) (uJ fun i j=>.bl (decide (j<i))):=ug fun _ _ _ _ _ _ _ q=>gt_int q
theorem AI:cO X (compareOp .GtE) (uJ fun i j=>.bl (decide (j<=i))):=ug fun _ _ _ _ _ _ _ q=>ge_int q
theorem qw:cO X (compareOp .Is) (fun x y H Q=>y=.non/\Q (.bl (decide (x=.non))) H):=by
 intro pins s σ H x y v u Q I rx ry h;obtain⟨rfl,q⟩:=h;cases ry;refine is_none_gen (aQ I q ?_)
 cases x<;>first
  | (cases rx;rfl)
  | (obtain⟨t,rfl⟩:=rx;rfl)
noncomputable def isObj:HO->Bool
 | .lst _=>true
 | .ins _ _ _=>true
 | _=>false
theorem iF{pins:List (Addr×Obj)}{s:Shared}{σ:St}{H:Hp}{a:Addr}{o:HO}(I:Inv X pins σ H s)(h:H a=some o)(p:isObj o=true):∃ob,s.heap.get? a=some ob/\ob.cls≠.type "tuple":=by
 cases o with
 | lst xs =>
  obtain⟨_,its,n,_,e⟩:xs.length<=sizeLine/\∃(its:List Value)(n:Nat),aI xs its/\s.heap.get? a=some {cls:=.type "list",data:=.seq its.toArray n}:=I.hok a _ h;exact⟨_,e,(by show Value.type "list"≠.type "tuple";decide +kernel)⟩
 | ins C dx fs =>
  have x:=I.hok a _ h;obtain⟨_,_,_,e,_⟩:=x;exact⟨_,e,(by show Value.ref C≠.type "tuple";exact fun z=>by cases z)⟩
 | _=>exact absurd (show false=true from p) BC
theorem rE(b:Expr){op:CmpOp}(h:op≠.In:=by decide)(h2:op≠.NotIn:=by decide):behindInMarks op b=false:=by
 have e1:(op==CmpOp.In)=false:=by cases op<;>first|rfl|exact absurd rfl h
 have e2:(op==CmpOp.NotIn)=false:=by cases op<;>first|rfl|exact absurd rfl h2
 cases b<;>simp[behindInMarks,e1,e2]
theorem mr{op:CmpOp}{r:R2}(ho:cO X (compareOp op) r)(ha:PE X a ta)(hb:PE X b tb)(hm:behindInMarks op b=false):PE X (.Compare a [op] [b] pos) (tOp r ta tb):=by
 intro pins s σ H Q I h;exact wpAny_Compare1 (yZ ha hb I h fun v u s2 x y H2 I2 rx ry q=>ho pins s2 σ H2 x y v u Q I2 rx ry q) hm
noncomputable def vy(t:TE):TT:=fun σ H Q=>t σ H fun x H' =>∃k,x=.bl k/\Q k H'
theorem mi{op:CmpOp}{r:R2}(ho:cO X (compareOp op) r)(ha:PE X a ta)(hb:PE X b tb)(hm:behindInMarks op b=false):PT X (.Compare a [op] [b] pos) (vy (tOp r ta tb)):=by
 intro pins s σ H Q I h
 refine wpAny_isTrue_Compare1 (ae (ha pins s σ H _ I h) fun v s1 ⟨x,H1,I1,r1,q1⟩=>ae (hb pins s1 σ H1 _ I1 q1) fun u s2 ⟨y,H2,I2,r2,q2⟩ =>
  ae (ho pins s2 σ H2 x y v u _ I2 r1 r2 q2) fun c s3 ⟨z,H3,I3,r3,k,e,q3⟩=> ?_) hm
 subst e;cases r3;exact B3 ⟨H3,I3,q3⟩
noncomputable def pe(r r' :R2)(ta tb tc:TE):TE:=fun σ H Q=>ta σ H fun x H1=>tb σ H1 fun y H2=>r x y H2 fun z H3=>∃k,z=.bl k /\
 (if k=true then tc σ H3 fun w' H4=>r' y w' H4 Q else Q (.bl false) H3)
theorem j8{op op' :CmpOp}{r r' :R2}(ho:cO X (compareOp op) r)(ho' :cO X (compareOp op') r')(ha:PE X a ta)(hb:PE X b tb)(hc:PE X c tc)
  (hm:lastMarks [op,op'] [b,c]=false:=by with_unfolding_all rfl):PE X (.Compare a [op,op'] [b,c] pos) (pe r r' ta tb tc):=by
 intro pins s σ H Q I h
 refine Compare_chain (ae (ha pins s σ H _ I h) fun v s1 ⟨x,H1,I1,r1,q1⟩=>chain_link (ae (hb pins s1 σ H1 _ I1 q1) fun u s2 ⟨y,H2,I2,r2,q2⟩ =>
  ae (ho pins s2 σ H2 x y v u _ I2 r1 r2 q2) fun d s3 ⟨z,H3,I3,r3,k,e,q3⟩=> ?_)) hm
 subst e;cases r3;refine B3 ?_;cases k with
 | false=>exact ite_ff ⟨.bl false,H3,I3,rfl,q3⟩
 | true=>exact ite_tt (chain_last (ae (hc pins s3 σ H3 _ I3 q3) fun w' s4 ⟨z',H4,I4,r4,q4⟩=>ho' pins s4 σ H4 y z' u w' Q I4 r2 r4 q4))
theorem j4{op op' :CmpOp}{r r' :R2}(ho:cO X (compareOp op) r)(ho' :cO X (compareOp op') r')(ha:PE X a ta)(hb:PE X b tb)(hc:PE X c tc)
  (hm:lastMarks [op,op'] [b,c]=false:=by with_unfolding_all rfl):PT X (.Compare a [op,op'] [b,c] pos) (vy (pe r r' ta tb tc)):=by
 intro pins s σ H Q I h
 refine isTrue_chain (ae (ha pins s σ H _ I h) fun v s1 ⟨x,H1,I1,r1,q1⟩=>test_link (ae (hb pins s1 σ H1 _ I1 q1) fun u s2 ⟨y,H2,I2,r2,q2⟩ =>
  ae (ho pins s2 σ H2 x y v u _ I2 r1 r2 q2) fun d s3 ⟨z,H3,I3,r3,k,e,q3⟩=> ?_)) hm
 subst e;cases r3;refine B3 ?_;cases k with
 | false =>
  obtain⟨k',e',q'⟩:=q3;cases e';exact ite_ff ⟨H3,I3,q'⟩
 | true =>
  refine ite_tt (test_last (ae (hc pins s3 σ H3 _ I3 q3) fun w' s4 ⟨z',H4,I4,r4,q4⟩=>ae (ho' pins s4 σ H4 y z' u w' _ I4 r2 r4 q4) fun d' s5 ⟨z2,H5,I5,r5,k2,e2,q5⟩=> ?_));subst e2;cases r5;exact B3 ⟨H5,I5,q5⟩
noncomputable def yk(K:W.Frag)(x:V)(H:Hp)(k:Bool):Prop :=
 match x with
 | .non=>k=false
 | .bl b=>k=b
 | .int i=>k=(i !=0)
 | .str y=>y.length<=sizeLine/\k=((y.length:Int) !=0)
 | .byt y=>y.size<=sizeLine/\k=((y.size:Int) !=0)
 | .ref p=>(∃xs,aj K H p xs/\k= !xs.isEmpty)\/(∃xs,bI K H p xs/\k= !xs.isEmpty)\/∃kvs,H p=some (.dK kvs)/\k= !kvs.isEmpty
 | _=>False
theorem li{κ:Type}{kvs:List (κ×V)}{vs:List (κ×Value)}(r:KV kvs vs):(!vs.isEmpty)= !kvs.isEmpty:=by
 cases r<;>rfl
theorem gQ{xs:List V}{its:List Value}(r:aI xs its):(!its.toArray.isEmpty)= !xs.isEmpty:=by
 cases r<;>simp
theorem eL:(sizeLine:Nat)<2^63:=by rw[Bw];decide
theorem wb:TruR X (fun x H Q=>∃k,yk X.K x H k/\Q k H):=by
 intro pins s σ H x v Q I rx h;obtain⟨k,e,q⟩:=h;have hl:=eL;have hs:sizeLine=16777216:=Bw;cases x with
 | non =>
  cases rx;have e' :k=false:=e;subst e';exact truthy_none ⟨H,I,q⟩
 | bl b =>
  cases rx;have e' :k=b:=e;subst e';exact B3 ⟨H,I,q⟩
 | int i =>
  obtain⟨t,rfl⟩:=rx;have e' :k=(i !=0):=e;subst e';exact PySem.P.truthy_int ⟨H,I,q⟩
 | str y =>
  obtain⟨t,rfl⟩:=rx;obtain⟨hy,e'⟩:y.length<=sizeLine/\k=((y.length:Int) !=0):=e;subst e';exact PySem.P.truthy_str (by omega) ⟨H,I.tok _,q⟩
 | byt y =>
  obtain⟨t,rfl⟩:=rx;obtain⟨hy,e'⟩:y.size<=sizeLine/\k=((y.size:Int) !=0):=e;subst e';exact W.truthy_bytes (by omega) ⟨H,I.tok _,q⟩
 | ref p =>
  cases rx;have e' :(∃xs,aj X.K H p xs/\k= !xs.isEmpty)\/(∃xs,bI X.K H p xs/\k= !xs.isEmpty)\/∃kvs,H p=some (.dK kvs)/\k= !kvs.isEmpty:=e
  rcases e' with⟨xs,hx,e'⟩|⟨xs,hx,e'⟩|⟨kvs,hx,e'⟩
  ·subst e'
   obtain⟨its,r,pl,hz⟩:=I.list hx;have hlen:=r.length;exact wpAny_truthy_list pl.isList (by simp only[BH];omega) ⟨H,I.tok _,by rw[gQ r];exact q⟩
  ·subst e'
   obtain⟨its,r,pl,hz⟩:=I.tuple hx;have hlen:=r.length;exact truthy_tuple pl (by simp only[BH];omega) ⟨H,I.tok _,by rw[gQ r];exact q⟩
  ·subst e'
   obtain⟨hz,hS,vs,r,m⟩:kvs.length<=sizeLine/\(p==sysModules)=false/\∃vs,KV kvs vs/\s.heap.DictOf (bA X.prog X.w) p vs:=I.hok p _ hx;have hlen:kvs.length=vs.length:=Paired.length r;exact wpAny_truthy_dict hS m (by omega) ⟨H,I.tok _,by rw[li r];exact q⟩
 | _=>exact(show False from e).elim
theorem qJ(ha:PE X a ta)(he:∀whole,isTrue a X.env whole=(do let v<-whole;standAt a.pos;holding [v] (truthy v))) :
  PT X a (fun σ H Q=>ta σ H fun x H' =>∃k,yk X.K x H' k/\Q k H'):=by
 intro pins s σ H Q I h;exact isTrue_plain (ae (ha pins s σ H _ I h) fun v s1 ⟨x,H1,I1,r1,q1⟩=>wb pins s1 σ H1 x v Q I1 r1 q1) (he _)
theorem lT:cO X (binaryOp .Add) (fun x y H Q=>∃i j,x=.str i/\y=.str j/\i.length+j.length<=sizeLine/\Q (.str (i++j)) H):=by
 intro pins s σ H x y v u Q I rx ry h;obtain⟨i,j,rfl,rfl,hz,q⟩:=h;obtain⟨t,rfl⟩:=rx;obtain⟨t',rfl⟩:=ry;exact add_str (fun t' tk=>⟨.str (i++j),H,I.tok _,⟨_,rfl⟩,q⟩) hz
theorem vals1{x:V}{us:List Value}(r:aI [x] us):∃u,us=[u]/\RelV x u:=by
 cases r with
 | cons r1 r2=>cases r2;exact⟨_,rfl,r1⟩
theorem vals2{x y:V}{us:List Value}(r:aI [x,y] us):∃u w',us=[u,w']/\RelV x u/\RelV y w' :=by
 cases r with
 | cons r1 r2 =>
  cases r2 with
  | cons r3 r4=>cases r4;exact⟨_,_,rfl,r1,r3⟩
theorem om(hc:X.calm=true):ay X (.builtin "max") (fun xs H Q=>∃i j,xs=[.int i,.int j]/\Q (.int (if j>i then j else i)) H):=by
 intro pins s σ H xs us Q I r h;obtain⟨i,j,rfl,q⟩:=h;obtain⟨u,w',rfl,⟨t,rfl⟩,⟨t',rfl⟩⟩:=vals2 r;refine max_two_ints (I.ok.hd hc) fun h' tk k=>⟨_,H,I.kept k,?_,q⟩
 by_cases hj:j>i
 ·rw[BK hj,BK hj];exact⟨_,rfl⟩
 ·rw[BI hj,BI hj];exact⟨_,rfl⟩
theorem ol(hc:X.calm=true):ay X (.builtin "min") (fun xs H Q=>∃i j,xs=[.int i,.int j]/\Q (.int (if j<i then j else i)) H):=by
 intro pins s σ H xs us Q I r h;obtain⟨i,j,rfl,q⟩:=h;obtain⟨u,w',rfl,⟨t,rfl⟩,⟨t',rfl⟩⟩:=vals2 r;refine min_two_ints (I.ok.hd hc) fun h' tk k=>⟨_,H,I.kept k,?_,q⟩
 by_cases hj:j<i
 ·rw[BK hj,BK hj];exact⟨_,rfl⟩
 ·rw[BI hj,BI hj];exact⟨_,rfl⟩
theorem iM:ay X (.type "int") (fun xs H Q=>(∃i,xs=[.int i]/\Q (.int i) H)\/∃k,xs=[.bl k]/\Q (.int (if k then 1 else 0)) H):=by
 intro pins s σ H xs us Q I r h
 rcases h with⟨i,rfl,q⟩|⟨k,rfl,q⟩
 ·obtain⟨u,rfl,t,rfl⟩:=vals1 r
  exact call_int_int ⟨.int i,H,I,⟨_,rfl⟩,q⟩
 ·obtain⟨u,rfl,r1⟩:=vals1 r
  cases r1;exact call_int_bool ⟨.int (if k then 1 else 0),H,I.tok _,⟨_,rfl⟩,q⟩
end
structure yp(h:Heap)(x dx C:Addr)(mA:Str->Option Value):Prop where
 obj:h.get? x=some (W.instObj C dx)
 ns:h.Ns1 dx mA
 ne:dx≠x
theorem eK{h:Heap}{dx:Addr}{mA:Str->Option Value}(n:h.Ns1 dx mA):∃od,h.get? dx=some od/\∀name,W.lookIn name od=some (mA name):=by
 obtain⟨o,es,ep,ho,hd,hk,_,hm⟩:=n;refine⟨o,ho,fun name=> ?_⟩;have e:=hm name;unfold nsFind findBy at e;rw[<- Array.find?_toList]at e;unfold W.lookIn;rw[hd];dsimp only
 split
 ·rename_i y q
  rw[q]at e;exact B4 some e
 ·rename_i q
  rw[q]at e;have a:es.toList.any (·.refKey)=false:=by
   rw[List.any_eq_false];intro y hy;obtain⟨z,t,hkey⟩:=hk y (Array.mem_toList_iff.mp hy);simp[DictEntry.refKey,hkey]
  have a' :¬es.toList.any (·.refKey)=true:=by rw[a];exact BC
  rw[BI a'];exact B4 some e
theorem yp.look{h:Heap}{x dx C:Addr}{mA:Str->Option Value}(I:yp h x dx C mA):∃od,W.InstAt h x (W.instObj C dx) C (some od)/\∀name,W.lookIn name od=some (mA name) :=
 let⟨od,ho,hl⟩:=eK I.ns
 ⟨od,⟨I.obj,rfl,rfl,ho⟩,hl⟩
section
variable{prog:Program}{w:World}{A:Around}{E:Value->Shared->Prop}{s:Shared}{K:W.Frag}{x dx C f:Addr}{mA:Str->Option Value}{name:Str}{v:Value}
end
theorem eZ.some_of{v:V}{o:Option Value}(r:eZ (some v) o):∃u,o=some u/\RelV v u:=by
 cases o with
 | none=>exact(show False from r).elim
 | some u=>exact⟨u,rfl,r⟩
theorem oh{v:V}{u:Value}(r:RelV v u):W.handedIn u=true:=by
 cases v with
 | non=>cases(show u=Value.none from r);rfl
 | bl b=>cases(show u=Value.bool b from r);rfl
 | int i=>obtain⟨t,e⟩:=(show∃t,u=Value.int i t from r);cases e;rfl
 | str x=>obtain⟨t,e⟩:=(show∃t,u=Value.str x t from r);cases e;rfl
 | byt b=>obtain⟨t,e⟩:=(show∃t,u=Value.bytes b t from r);cases e;rfl
 | flt b=>obtain⟨t,e⟩:=(show∃t,u=Value.float b t from r);cases e;rfl
 | ref a=>cases(show u=Value.ref a from r);rfl
 | ty n=>cases(show u=Value.type n from r);rfl
section
variable{P:Program}{w:World}{H H' :Hp}{h h' :Heap}{a C dx:Addr}{fs fs' :List (Str×V)}
theorem vA(hok:cS P w H h)(e:H a=some (.ins C dx fs)):∃mA,yp h a dx C mA/\(∀f,eZ (fs.lookup f) (mA f))/\PySem.Within mA (fs.map (·.1))/\fs.length<=1000/\H dx=some (.own a):=by
 obtain⟨d,z,ne,ob,mA,n,r,q⟩:=(show aY P w H h a (.ins C dx fs)from hok a _ e);exact⟨mA,⟨ob,n,ne⟩,r,q,z,d⟩
end
structure Cls(K:W.Frag)(C:Addr):Prop where
 pg:W.plainGet K C Str.empty=true
 hd:W.hasDictIn K C=true
 po:W.plainOver K C=true
 sa:W.findIn K (.ref C) "__setattr__"=some (some (.builtin "object.__setattr__"))
theorem Cls.get{K:W.Frag}{C:Addr}(c:Cls K C)(f:Str):W.plainGet K C f=true:=c.pg
section
variable{X:Cx}{pins:List (Addr×Obj)}{σ:St}{H:Hp}{s:Shared}{a C dx:Addr}{fs:List (Str×V)}{f:Str}{v:V}{A:Around}{E:Value->Shared->Prop}
theorem vh{prog:Program}{w:World}{env:Env}{e:Expr}{f:Str}{pos:Pos}{s:Shared}{Q:Value->Shared->Prop}(hb:attributeBase e f env (eval e env)=eval e env)
  (h:wpAny (model prog w) A (eval e env) (fun o s₁=>wpAny (model prog w) A (getAttr o f true) Q E s₁) E s):wpAny (model prog w) A (eval (.Attribute e f pos) env) Q E s :=
 Attribute_any_ h (by rw[arm_eval_Attribute,hb])
end
section
variable{X:Cx}{o e value:Expr}{f:Str}{pos pos' tpos:Pos}{ta tv:TE}
end
section
variable{X:Cx}{pins:List (Addr×Obj)}{σ:St}{H:Hp}{s:Shared}{A:Around}{E:Value->Shared->Prop}{Q:Value->Shared->Prop}{c:Value}{b:Bool}
inductive eY(K:W.Frag)(H:Hp):V->Value->Prop where
 | non:eY K H .non (.type "NoneType")
 | bl (x:Bool):eY K H (.bl x) (.type "bool")
 | int (i:Int):eY K H (.int i) (.type "int")
 | str (x:Str):eY K H (.str x) (.type "str")
 | flt (x:UInt64):eY K H (.flt x) (.type "float")
 | lst {a:Addr} {xs:List V} (e:H a=some (.lst xs)):eY K H (.ref a) (.type "list")
 | frz {a:Addr} {o:Obj} {xs:List V} (e:H a=some (.frz o (.lst xs))):eY K H (.ref a) (.type "list")
 | tup {a:Addr} {xs:List V} (e:H a=some (.tup xs)):eY K H (.ref a) (.type "tuple")
 | dK {a:Addr} {kvs:List (aq×V)} (e:H a=some (.dK kvs)):eY K H (.ref a) (.type "dict")
 | dT {a:Addr} {kvs:List (List aq×V)} (e:H a=some (.dT kvs)):eY K H (.ref a) (.type "dict")
 | ins {a C dx:Addr} {fs:List (Str×V)} (e:H a=some (.ins C dx fs)) (cl:Cls K C) (ha:W.findIn K (.ref C) "__class__"=some (some (.builtin "object.__class__")))
   (hn:W.specialIn K (.builtin "object.__class__") "__get__"=some (some (.builtin "getset_descriptor.__get__"))) (htk:W.takesIn K (.builtin "object.__class__")=some true)
   (hm:W.mroIn K C (.type "object")=some true):eY K H (.ref a) (.ref C)
theorem oZ{x:V}{u t:Value}(I:Inv X pins σ H s)(rx:RelV x u)(ty:eY X.K H x t)(e:W.kitOne X.K t c=some b)(h:∀tk,Q (.bool b) {s with toks:=tk}) :
  wpAny (model X.prog X.w) A (call (.builtin "isinstance") [u,c]) Q E s:=by
 cases ty with
 | non=>cases(show u=Value.none from rx);exact CL W.kitx_none I.kIn True.intro e (fun z=>nomatch z) h
 | bl y=>cases(show u=Value.bool y from rx);exact CL W.kitx_bool I.kIn True.intro e (fun z=>nomatch z) h
 | int i=>obtain⟨t,q⟩:=(show∃t,u=Value.int i t from rx);cases q;exact CL W.kitx_int I.kIn True.intro e (fun z=>nomatch z) h
 | str y=>obtain⟨t,q⟩:=(show∃t,u=Value.str y t from rx);cases q;exact CL W.kitx_str I.kIn True.intro e (fun z=>nomatch z) h
 | flt y=>obtain⟨t,q⟩:=(show∃t,u=Value.float y t from rx);cases q;exact CL W.kitx_float I.kIn True.intro e (fun z=>nomatch z) h
 | @lst a xs ea =>
  cases(show u=Value.ref a from rx);obtain⟨_,_,n,_,h1⟩:=(show aY X.prog X.w H s.heap a (.lst xs)from I.hok a _ ea);exact CL W.kitx_list I.kIn ⟨_,h1,rfl⟩ e (fun z=>nomatch z) h
 | @frz a ob xs ea =>
  cases(show u=Value.ref a from rx);obtain⟨_,_,_,n,_,h1⟩:=(show aY X.prog X.w H s.heap a (.frz ob (.lst xs))from I.hok a _ ea);exact CL W.kitx_list I.kIn ⟨_,h1,rfl⟩ e (fun z=>nomatch z) h
 | @tup a xs ea =>
  cases(show u=Value.ref a from rx);obtain⟨_,_,_,p⟩:=(show aY X.prog X.w H s.heap a (.tup xs)from I.hok a _ ea);obtain⟨o,h1,h2,_⟩:=p;exact CL W.kitx_tuple I.kIn ⟨o,h1,h2⟩ e (fun z=>nomatch z) h
 | @dK a kvs ea =>
  cases(show u=Value.ref a from rx);obtain⟨_,_,vs,_,p⟩:=(show aY X.prog X.w H s.heap a (.dK kvs)from I.hok a _ ea);obtain⟨o,es,ep,h1,h2,_⟩:=p;exact CL W.kitx_dict I.kIn ⟨o,h1,h2.1⟩ e (fun z=>nomatch z) h
 | @dT a kvs ea =>
  cases(show u=Value.ref a from rx);obtain⟨_,_,xs,_,o,es,ep,h1,h2,_⟩:=(show aY X.prog X.w H s.heap a (.dT kvs)from I.hok a _ ea);exact CL W.kitx_dict I.kIn ⟨o,h1,h2.1⟩ e (fun z=>nomatch z) h
 | @ins a C dx fs ea cl ha hn htk hm =>
  cases(show u=Value.ref a from rx);obtain⟨mA,O,_⟩:=vA I.hok ea;obtain⟨od,J,_⟩:=O.look;exact CL (W.kitx_own (cl.get _) cl.hd ha hn htk hm) I.kIn J e (fun z=>nomatch z) h
end
structure bE(k:Nat)(A:Around):Prop where
 hd:A.handled=none
 dp:A.depth+3*k+5<recursionLimit
 un:A.units+16*k+200<cLine
theorem bE.mono{j k:Nat}{A:Around}(r:bE k A)(h:j<=k):bE j A:=⟨r.hd,by have:=r.dp;omega,by have:=r.un;omega⟩
theorem bE.deeper{k:Nat}{A:Around}(r:bE (k+1) A)(env:Env):bE k (A.deeper env) :=
 ⟨r.hd,by have:=r.dp;show A.depth+1+3*k+5<_;omega,by have:=r.un;show A.units+3+16*k+200<_;omega⟩
theorem lZ{A:Around}{C:Addr}{us:List Value}{kw:List (Str×Value)}:(A.under (.builtin "type.__call__" ⟨.ref C::us,kw⟩)).depth=A.depth+1:=by
 first|rfl|simp[Around.under,Code.weight,Code.isCreation,Code.isGuard,Code.isCaller,Code.frames,Code.isFrame,guardIds]
theorem lY{A:Around}{C:Addr}{us:List Value}{kw:List (Str×Value)}:(A.under (.builtin "type.__call__" ⟨.ref C::us,kw⟩)).units=A.units+1:=by
 first|rfl|simp[Around.under,Code.cUnits,Code.frames,Code.isFrame]
theorem bE.make{k:Nat}{A:Around}(r:bE (k+1) A)(C:Addr)(us:List Value)(kw:List (Str×Value)):bE k (A.under (.builtin "type.__call__" ⟨.ref C::us,kw⟩)) :=
 ⟨r.hd,by have:=r.dp;rw[lZ];omega,by have:=r.un;rw[lY];omega⟩
theorem bE.depth{k:Nat}{A:Around}(r:bE k A):A.depth<recursionLimit:=by have:=r.dp;omega
theorem bE.units{k:Nat}{A:Around}(r:bE k A):A.units+64<cLine:=by have:=r.un;omega
noncomputable def wl:TA:=fun _ H Q=>Q [] H
noncomputable def v5(ta:TE)(tr:TA):TA:=fun σ H Q=>ta σ H fun x H1=>tr σ H1 fun xs H2=>Q (x::xs) H2
section
variable{X:Cx}{e:Expr}{es:List Expr}{te:TE}{t:TA}{pos:Pos}
theorem aT:PA X [] wl:=fun _ _ _ _ H Q I h=>Calls.spliced_nil ⟨[],H,I,.nil,h⟩
theorem aC(ha:PE X e te)(hr:PA X es t)(hs:starEach (e::es) X.env=(false,eval e X.env)::starEach es X.env:=by rfl):PA X (e::es) (v5 te t):=by
 intro pos pins s σ H Q I h;rw[hs];show wpAny _ _ (spliced ((false,eval e X.env)::backTo pos (starEach es X.env))) _ _ s;refine Calls.spliced_cons (ae (ha pins s σ H _ I h) fun u s1 hpq=> ?_);obtain⟨x,H1,I1,r1,q1⟩:=hpq;exact ae (hr pos pins s1 σ H1 _ I1 q1) fun us s2 ⟨xs,H2,I2,r2,q2⟩=>⟨x::xs,H2,I2,.cons r1 r2,q2⟩
noncomputable def tTup(t:TA):TE:=fun σ H Q=>t σ H fun xs H1=>xs.length<=sizeLine/\∀p,H1 p=none->Q (.ref p) (upd H1 p (.tup xs))
noncomputable def tLst(t:TA):TE:=fun σ H Q=>t σ H fun xs H1=>xs.length<=sizeLine/\∀p,H1 p=none->Q (.ref p) (upd H1 p (.lst xs))
theorem lP{x1}(h:PA X es t):PE X (.Tuple es x1 pos) (tTup t):=by
 intro pins s σ H Q I hq;refine wpAny_Tuple_spliced (ae (h pos pins s σ H _ I hq) fun us s1 ⟨xs,H1,I1,r,z,q⟩=>⟨by rw[<- r.length];exact z,?_⟩);have hf:H1 s1.heap.objs.size=none:=I1.hok.fresh (BD _);refine⟨.ref s1.heap.objs.size,upd H1 s1.heap.objs.size (.tup xs),I1.laid (t' :=s1.toks) (fun b u e=>BA _ e) (BD _) ?_,rfl,q _ hf⟩;exact⟨z,us,r,⟨_,BR _ rfl,rfl,_,rfl,rfl⟩⟩
theorem dU(h:PA X es t):PE X (.List es pos) (tLst t):=by
 intro pins s σ H Q I hq;refine wpAny_List_spliced (ae (h pos pins s σ H _ I hq) fun us s1 ⟨xs,H1,I1,r,z,q⟩=>⟨by rw[<- r.length];exact z,?_⟩);have hf:H1 s1.heap.objs.size=none:=I1.hok.fresh (BD _);refine⟨.ref s1.heap.objs.size,upd H1 s1.heap.objs.size (.lst xs),I1.laid (t' :=s1.toks) (fun b u e=>BA _ e) (BD _) ?_,rfl,q _ hf⟩;exact⟨z,us,0,r,BR _ rfl⟩
end
noncomputable abbrev Sp:=List V->Hp->VK->XK->Prop
noncomputable abbrev k8:=List Env->Hp->Shared->XK->Value->Shared->Prop
structure jT(P:Program)(w:World)(K:W.Frag)(mg:Str->Option Value)(base:Heap)(A:Around)(outer:List Env)(s:Shared)(H:Hp):Prop where
 frames:A.frames=some outer
 mod:Mod K mg base
 bs:∀b o,base.get? b=some o->s.heap.get? b=some o/\H b=none
 bsz:base.objs.size<=s.heap.objs.size
 funs:s.heap.FunFrames base outer
 frf:∀b∈lC outer,H b=none
 hok:cS P w H s.heap
 bare:AllBare s.gens
noncomputable def CE(outer:List Env)(P:Program)(w:World)(H:Hp)(s:Shared)(Q:VK)(u:Value)(s' :Shared):Prop :=
 ∃v H',s'.os=s.os/\AllBare s'.gens/\Un (lC outer) [] H H' s.heap s'.heap/\cS P w H' s'.heap/\RelV v u/\Q v H'
noncomputable def CR(CX:k8)(outer:List Env)(P:Program)(w:World)(H:Hp)(s:Shared)(Q:VK)(E:XK)(r:Result)(s' :Shared):Prop :=
 match r with
 | .ok (.ret u)=>CE outer P w H s Q u s'
 | .ok _=>False
 | .error e=>CX outer H s E e s'
structure ah(P:Program)(w:World)(K:W.Frag)(mg:Str->Option Value)(base:Heap)(CX:k8)(k:Nat)(f:Addr)(fd:FuncData)(ps:List Str)(sp:Sp):Prop where
 len:∀vs H Q E,sp vs H Q E->vs.length=ps.length
 run:∀(A:Around)(outer:List Env)(s:Shared)(H:Hp)(args:Args)(us:List Value)(vs:List V)(Q:VK)(E:XK),bE k A->jT P w K mg base A outer s H->BindsTo s fd args (ps.zip us)->aI vs us->sp vs H Q E ->
  codeAny (model P w) A (.call (.ref f) args) (CR CX outer P w H s Q E) s
theorem ah.mono{P:Program}{w:World}{K:W.Frag}{mg:Str->Option Value}{base:Heap}{CX:k8}{j k:Nat}{f:Addr}{fd:FuncData}{ps:List Str}{sp:Sp}(F:ah P w K mg base CX j f fd ps sp)(h:j<=k) :
  ah P w K mg base CX k f fd ps sp:=⟨F.len,fun A outer s H args us vs Q E hr=>F.run A outer s H args us vs Q E (hr.mono h)⟩
theorem ah.imp{P:Program}{w:World}{K:W.Frag}{mg:Str->Option Value}{base:Heap}{CX:k8}{k:Nat}{f:Addr}{fd:FuncData}{ps:List Str}{sp sp' :Sp}(F:ah P w K mg base CX k f fd ps sp)
  (h:∀vs H Q E,sp' vs H Q E->sp vs H Q E):ah P w K mg base CX k f fd ps sp' :=
 ⟨fun vs H Q E q=>F.len vs H Q E (h _ _ _ _ q),fun A outer s H args us vs Q E hr he hb hv hs=>F.run A outer s H args us vs Q E hr he hb hv (h _ _ _ _ hs)⟩
theorem jT.make{P:Program}{w:World}{K:W.Frag}{mg:Str->Option Value}{base:Heap}{A:Around}{outer:List Env}{s:Shared}{H:Hp}(e:jT P w K mg base A outer s H)(C:Addr)(us:List Value)(kw:List (Str×Value)) :
  jT P w K mg base (A.under (.builtin "type.__call__" ⟨.ref C::us,kw⟩)) outer s H:=⟨by first|exact e.frames|(simpa [Around.under,Code.envs,Code.isFrame,pushEnvs]using e.frames),e.mod,e.bs,e.bsz,e.funs,e.frf,e.hok,e.bare⟩
section
variable{X:Cx}{pins:List (Addr×Obj)}{σ:St}{H:Hp}{s s' :Shared}
theorem Inv.env0(I:Inv X pins σ H s):jT X.prog X.w X.K X.mg X.base X.A X.stack s H :=
 ⟨I.ok.frames,I.ok.mod,I.bs,Ba I.ok.bsz I.sz,I.stack,I.stkFree,I.hok,I.bare⟩
theorem Inv.after{Q:VK}{u:Value}(I:Inv X pins σ H s)(h:CE X.stack X.prog X.w H s Q u s'):EP X pins σ Q u s' :=by
 obtain⟨v,H',os,bare,un,hok,r,q⟩:=h;obtain⟨hh,g,d,t,os'⟩:=s';obtain rfl:os' =s.os:=os;exact⟨v,H',I.call (h' :=hh) (g' :=g) (d' :=d) (t' :=t) (ch:=[]) un hok bare (fun b z=>absurd z (by simp)),r,q⟩
end
noncomputable def zZ(sp:Sp)(dvs:List V)(E:XK)(t:TA):TE:=fun σ H Q=>t σ H fun vs H1=>sp (vs++dvs) H1 Q E
noncomputable def Binds(K:W.Frag)(fd:FuncData)(ps:List Str)(ds:List Value):Prop :=
 ∀(s:Shared)(us:List Value),K.In s.heap->(us++ds).length=ps.length->BindsTo s fd ⟨us,[]⟩ (ps.zip (us++ds))
theorem Binds.all{K:W.Frag}{fd:FuncData}{ps:List Str}(h:∀us:List Value,us.length=ps.length->bindArgs fd ⟨us,[]⟩=pure (ps.zip us)):Binds K fd ps []:=fun s us _ hl=>by
 rw[Bz]at hl ⊢;exact .of_eq (h us hl)
noncomputable def mO(CX:k8)(X:Cx)(E:XK):Prop:=∀(pins:List (Addr×Obj))(σ:St)(H:Hp)(s:Shared)(e:Value)(s' :Shared),Inv X pins σ H s->CX X.stack H s E e s' ->X.xe e s'
section
variable{X:Cx}{CX:k8}{k:Nat}{f C:Addr}{fd:FuncData}{ps:List Str}{sp:Sp}{dvs:List V}{ds:List Value}{E:XK}{x m:Str}{p pos apos:Pos}{e o:Expr}{es:List Expr}{ta:TE}{t:TA}
theorem wz{pins:List (Addr×Obj)}{σ:St}{H:Hp}{s:Shared}{Q:VK}{us:List Value}{vs:List V}(F:ah X.prog X.w X.K X.mg X.base CX k f fd ps sp)(hr:bE k X.A)(hb:Binds X.K fd ps ds)(hd:aI dvs ds)(hx:mO CX X E)
  (I:Inv X pins σ H s) (r:aI vs us) (h:sp (vs++dvs) H Q E):wpAny (model X.prog X.w) X.A (call (.ref f) us) (EP X pins σ Q) X.xe s:=by
 have r2:aI (vs++dvs) (us++ds):=r.append hd;have hl:(us++ds).length=ps.length:=by rw[<- r2.length];exact F.len _ _ _ _ h
 refine C6 (Cs (F.run X.A X.stack s H ⟨us,[]⟩ (us++ds) (vs++dvs) Q E hr I.env0 (hb s us I.kIn hl) r2 h) fun r s' hq=> ?_);cases r with
 | error e=>exact hx pins σ H s e s' I hq
 | ok fl =>
  cases fl with
  | ret u=>exact I.after hq
  | next=>exact False.elim hq
  | brk=>exact False.elim hq
  | cont=>exact False.elim hq
theorem ik(F:ah X.prog X.w X.K X.mg X.base CX k f fd ps sp)(hr:bE k X.A)(hg:Gl X x)(hm:X.mg x=some (.ref f))(hk:W.keepIn X.K (.ref f)=true)(hb:Binds X.K fd ps ds)(hd:aI dvs ds)(hx:mO CX X E)
  (ha:PA X (e::es) t) (hdb:(x==("__debug__":Str))=false:=by decide) (he:starEach (e::es) X.env=(false,eval e X.env)::starEach es X.env:=by rfl) (hpl:(backTo pos (starEach es X.env)).any (·.1)=false:=by rfl) :
  PE X (.Call (.Name x p) (e::es) [] pos) (zZ sp dvs E t):=by
 intro pins s σ H Q I h;refine B6 (bU I hg hm ?_ hdb);refine W.callWith_K (h₀:=X.base) I.ok.mod.kin hk (ae (ha pos pins s σ H _ I h) fun us s1 ⟨vs,H1,I1,r,q⟩=>⟨I1.kIn,?_⟩) he hpl;exact wz F hr hb hd hx I1 r q
end
noncomputable def PK(X:Cx)(kws:List Keyword)(t:TA):Prop :=
 ∀(pos:Pos)(pins:List (Addr×Obj))(s:Shared)(σ:St)(H:Hp)(Q:List V->Hp->Prop),Inv X pins σ H s->t σ H Q->wpAny (model X.prog X.w) X.A (evalAll ((backToKw pos (keywordEach kws X.env)).map (·.2))) (AP X pins σ Q) X.xe s
section
variable{X:Cx}{CX:k8}{k:Nat}{f C:Addr}{fd:FuncData}{ps ks:List Str}{sp:Sp}{E:XK}{x m:Str}{p pos apos kpos:Pos}{e o:Expr}{es:List Expr}{kws:List Keyword}{te ta:TE}{t tk:TA}{nm:Option Str}
theorem xJ:PK X [] wl:=fun _ _ _ _ H Q I h=>wpAny_evalAll_nil ⟨[],H,I,.nil,h⟩
theorem uW(ha:PE X e te)(hr:PK X kws t):PK X (⟨nm,e,kpos⟩::kws) (v5 te t):=by
 intro pos pins s σ H Q I h;show wpAny _ _ (evalAll ((do let v<-eval e X.env;standAt pos;pure v)::(backToKw pos (keywordEach kws X.env)).map (·.2))) _ _ s;refine wpAny_evalAll_cons (A8 (ae (ha pins s σ H _ I h) fun u s1 ⟨x,H1,I1,r1,q1⟩=>A8 (wpAny_standAt (BG ?_))));exact ae (hr pos pins s1 σ H1 _ I1 q1) fun us s2 ⟨xs,H2,I2,r2,q2⟩=>⟨x::xs,H2,I2,.cons r1 r2,q2⟩
variable{g:List Value->List Value->List Value}{gV:List V->List V->List V}
end
structure ax(N P:List Str)(sc:Scope):Prop where
 kind:sc.kind=.function
 co:sc.isCoroutine=false
 gen:sc.isGenerator=false
 nd:N.Nodup
 pre:N.take P.length=P
 par:∀x∈P,sc.names.lookup x=some .local\/sc.names.lookup x=some .cell
 nofree:∀y∈sc.names,y.2≠.free
theorem iN{kindOf:Str->Option NameKind}{x:Str}:∀{binds:List (Str×Value)}{m:Str->Option Value},(∀v,(x,v)∉binds)->bindL kindOf binds m x=m x
 | [],_,_=>rfl
 | (n,v)::r,m,h=>by
  unfold bindL;rw[iN fun w hw=>h w (BF _ hw)]
  split
  ·have:x≠n:=by rintro rfl;exact h v BN
   simp[this]
  ·rfl
theorem iP{kindOf:Str->Option NameKind}{x:Str}:∀{binds:List (Str×Value)}{m:Str->Option Value},(∀v,(x,v)∉binds)->bindC kindOf binds m x=m x
 | [],_,_=>rfl
 | (n,v)::r,m,h=>by
  unfold bindC;rw[iP fun w hw=>h w (BF _ hw)]
  split
  ·rfl
  ·have:x≠n:=by rintro rfl;exact h v BN
   simp[this]
theorem iO{kindOf:Str->Option NameKind}{x:Str}{v:Value}:∀{P:List Str}{vs:List Value}{i:Nat}{m:Str->Option Value},P.Nodup->P[i]? =some x->vs[i]? =some v->kindOf x=some .local ->
  bindL kindOf (P.zip vs) m x=some v
 | [],_,_,_,_,h,_,_=>by simp at h
 | _::_,[],_,_,_,_,h,_=>by simp at h
 | p::P,w::vs,0,m,nd,h1,h2,hk=>by
  simp at h1 h2;subst h1;subst h2;show bindL kindOf ((p,w)::P.zip vs) m p=_;unfold bindL;rw[iN fun v hv=>(CG.mp nd).1 (List.of_mem_zip hv).1,BK hk];simp
 | p::P,w::vs,i+1,m,nd,h1,h2,hk=>by
  show bindL kindOf ((p,w)::P.zip vs) m x=_;unfold bindL;exact iO (i:=i) (CG.mp nd).2 (by simpa using h1) (by simpa using h2) hk
theorem iQ{kindOf:Str->Option NameKind}{x:Str}{v:Value}:∀{P:List Str}{vs:List Value}{i:Nat}{m:Str->Option Value},P.Nodup->P[i]? =some x->vs[i]? =some v->kindOf x≠some .local ->
  bindC kindOf (P.zip vs) m x=some v
 | [],_,_,_,_,h,_,_=>by simp at h
 | _::_,[],_,_,_,_,h,_=>by simp at h
 | p::P,w::vs,0,m,nd,h1,h2,hk=>by
  simp at h1 h2;subst h1;subst h2;show bindC kindOf ((p,w)::P.zip vs) m p=_;unfold bindC;rw[iP fun v hv=>(CG.mp nd).1 (List.of_mem_zip hv).1,BI hk];simp
 | p::P,w::vs,i+1,m,nd,h1,h2,hk=>by
  show bindC kindOf ((p,w)::P.zip vs) m x=_;unfold bindC;exact iQ (i:=i) (CG.mp nd).2 (by simpa using h1) (by simpa using h2) hk
noncomputable def start(N:List Str)(vs:List V):St:=vs.map some++List.replicate (N.length-vs.length) none
noncomputable def cV(CX:k8)(P:Program)(w:World)(K:W.Frag)(mg:Str->Option Value)(base:Heap)(N:List Str)(qual:Str)(scope:Scope)(f:Addr)(cd:Value)(A:Around)(outer:List Env)(s:Shared)(H:Hp)(E:XK):Cx where
 prog:=P
 w:=w
 K:=K
 mg:=mg
 base:=base
 A:=A.deeper (envOfC qual scope s.heap.objs.size f cd)
 N:=N
 s₀:=s
 H₀:=H
 env:=envOfC qual scope s.heap.objs.size f cd
 outer:=outer
 stack:=envOfC qual scope s.heap.objs.size f cd::outer
 ex:=[]
 calm:=true
 fn:=fun _=>true
 pn:=[]
 xe:=fun e s' =>wpAny (model P w) (A.deeper (envOfC qual scope s.heap.objs.size f cd)) (leaving (envOfC qual scope s.heap.objs.size f cd) e) (fun _ s'' =>CX outer H s E e s'') (fun e' s'' =>CX outer H s E e' s'') s'
theorem ko{sc:Scope}{n:Nat}{x:Str}(h:sc.names.lookup x=some .cell):∃c,(cellsFrom n sc.names []).lookup x=some c:=by
 have q:=W.cellsFrom_some sc.names n [] (.inl h);exact CJ.mp q
theorem iL{CX:k8}{P:Program}{w:World}{K:W.Frag}{mg:Str->Option Value}{base:Heap}{N ps:List Str}{qual:Str}{scope:Scope}{f:Addr}{cd:Value}{A:Around}{outer:List Env}{s s1:Shared}{H:Hp}{E:XK}{us:List Value}{vs:List V}
  (S:ax N ps scope) (hd:A.handled=none) (e0:jT P w K mg base A outer s H) (hl:vs.length=ps.length) (r:aI vs us)
  (x:InCallC s s.heap.objs.size (bindL (envOfC qual scope s.heap.objs.size f cd).kindOf (ps.zip us) fun _=>none) (cellsFrom (s.heap.objs.size+1) scope.names []) (bindC (envOfC qual scope s.heap.objs.size f cd).kindOf (ps.zip us) fun _=>none) s1) :
  Inv (cV CX P w K mg base N qual scope f cd A outer s H E) [] (start N vs) H s1:=by
 have hpl:ps.length<=N.length:=by have:=B4 List.length S.pre;rw[CN]at this;omega
 obtain⟨h1,tk,rfl,hk⟩:=x.done;have noA:∀b:Addr,b∉(cV CX P w K mg base N qual scope f cd A outer s H E).ex:=fun b z=>absurd (show b∈([]:List Addr)from z) (by simp)
 refine⟨⟨e0.mod,S.kind,rfl,rfl,BD _,fun y z c h1 h2=> ?_,fun y hy=> ?_,fun y c _ h=> ?_,fun _=>hd,Around.frames_deeper e0.frames,.inr ⟨rfl,rfl⟩,fun b z=>absurd z (noA b),e0.bs,e0.bsz,fun b _ _=>noA b,fun b z=>absurd z (noA b),e0.funs,e0.frf⟩,
  rfl,e0.bare,Un.kept hk,⟨_,x.toInCall.ns,fun i y v h1 h2 h3=> ?_⟩,fun y c h=>⟨_,x.cell y c h⟩,e0.hok.fresh (BD _),fun y c h=> ?_,fun p hp=>absurd (show p∈([]:List (Addr×Obj))from hp) (by simp),e0.hok.kept hk,?_⟩
 ·exact name_of_addr x.apart (BY h1) (BY h2)
 ·have hy:scope.names.lookup y=some .cell\/scope.names.lookup y=some .free:=hy
  rcases hy with hy|hy
  ·exact ko hy
  ·exact absurd rfl (S.nofree _ (BY hy))
 ·exact CZ (x.above y c (BY h))
 ·have hi:i<vs.length:=by
   unfold start at h2
   by_cases hi:i<vs.length
   ·exact hi
   ·rw[List.getElem?_append_right (by simpa using hi)]at h2
    rw[List.getElem?_replicate]at h2
    split at h2<;>cases h2
  have ha:vs[i]? =some v:=by
   unfold start at h2;rw[DH (by simpa using hi),Bi]at h2;cases e:vs[i]? with
   | none=>rw[e]at h2;cases h2
   | some a=>rw[e]at h2;cases h2;rfl
  obtain⟨u,hu,rv⟩:=r.get ha;have hp:ps[i]? =some y:=by
   rw[<- S.pre,List.getElem?_take_of_lt (by omega)];exact h1
  have ndP:ps.Nodup:=by rw[<- S.pre];exact S.nd.sublist (List.take_sublist _ _)
  refine⟨u,rv,?_⟩
  rcases S.par y (Bo hp)with k|k
  ·exact .inl ⟨k,iO ndP hp hu k⟩
  ·obtain⟨c,e⟩:=ko (n:=s.heap.objs.size+1) k
   refine .inr ⟨.inl k,c,e,?_⟩;have q:=x.cell y c e;rw[iQ ndP hp hu (by show scope.names.lookup y≠_;rw[k];decide)]at q;exact q
 ·exact e0.hok.fresh (CZ (x.above y c (BY h)))
 ·unfold start
  show _=N.length;rw[BL,BJ,CU];omega
theorem ri{CX:k8}{P:Program}{w:World}{K:W.Frag}{mg:Str->Option Value}{base:Heap}{k:Nat}{f:Addr}{name qual:Str}{params:Arguments}{body:List Stmt}{scope:Scope}{dV kV doc pm cdv ct oc:Value}{an od:Option Addr}
  {osl:Array (Option Value)} {N ps:List Str} {sp:Sp} (lk:K.lookup f=some ⟨oc,od,.func (W.fnOf name qual params body scope dV kV doc pm an cdv ct),osl⟩) (hcd:W.codeIn K cdv qual=true) (S:ax N ps scope)
  (len:∀vs H Q E,sp vs H Q E->vs.length=ps.length)
  (hbody:∀(A:Around)(outer:List Env)(s:Shared)(H:Hp)(vs:List V)(Q:VK)(E:XK),bE k (A.deeper (envOfC qual scope s.heap.objs.size f cdv))->sp vs H Q E ->
   ∃t,jW (cV CX P w K mg base N qual scope f cdv A outer s H E) body t/\t {nx:=fun _ H' =>Q .non H',rt:=Q} (start N vs) H) :
  ah P w K mg base CX (k+1) f (W.fnOf name qual params body scope dV kV doc pm an cdv ct) ps sp:=by
 refine⟨len,fun A outer s H args us vs Q E hr e0 hb r hsp=> ?_⟩;have hl:=len _ _ _ _ hsp;have KX:K.In s.heap:=e0.mod.kin.keeps fun b o e=>(e0.bs b o e).1;have lim:s.heap.NoLimit:=e0.mod.nolimit.keeps fun b o e=>(e0.bs b o e).1;have hkind:∀y∈ps.zip us,scope.names.lookup y.1=some .local\/(scope.names.lookup y.1=some .cell/\((cellsFrom (s.heap.objs.size+1) scope.names []).lookup y.1).isSome=true):=fun⟨n,v⟩ hy=>by
  rcases S.par n (List.of_mem_zip hy).1 with q|q
  ·exact .inl q
  ·exact .inr ⟨q,W.cellsFrom_some _ _ _ (.inl q)⟩
 refine codeAny_call_function hr.depth (KX _ _ lk) rfl S.co S.gen rfl (W.codeRec_of KX hcd) (hb _ _ _ _ ?_);refine wpAny_newFunctionEnv_cells S.kind hkind fun env he s1 x=> ?_;subst he;refine⟨lim.keeps x.toInCall.keep,codeAny_func ?_⟩;obtain⟨t,ht,hq⟩:=hbody A outer s H vs Q E (hr.deeper _) hsp;have I:Inv (cV CX P w K mg base N qual scope f cdv A outer s H E) [] (start N vs) H s1:=iL S hr.hd e0 hl r x;refine B5 (ht [] s1 (start N vs) H _ I hq) (fun fl s' hs=> ?_) fun e s' hs=>hs
 have fin:∀{σ' :St}{H' :Hp}{v:V}{u:Value},Inv (cV CX P w K mg base N qual scope f cdv A outer s H E) [] σ' H' s' ->RelV v u->Q v H' ->CE outer P w H s Q u s' :=
  fun{σ' H' v u} J rv q=>⟨v,H',J.os,J.bare,J.base,J.hok,rv,q⟩
 cases fl with
 | ret u =>
  obtain⟨v,σ',H',J,rv,q⟩:=hs;exact fin J rv q
 | next =>
  obtain⟨σ',H',J,q⟩:=hs;exact fin (v:=V.non) (u:=Value.none) J rfl q
 | brk =>
  obtain⟨_,_,_,q⟩:=hs;exact False.elim q
 | cont =>
  obtain⟨_,_,_,q⟩:=hs;exact False.elim q
section
variable{X:Cx}{x:Str}{p pos:Pos}{e:Expr}{es:List Expr}{t:TA}{id T:String}{r:List V->Hp->VK->Prop}
noncomputable def tCB(r:List V->Hp->VK->Prop)(t:TA):TE:=fun σ H Q=>t σ H fun vs H1=>r vs H1 Q
theorem az(hc:ay X (.builtin id) r)(hg:Gl X x)(hm:X.mg x=none)(hv:bootBuiltins x=some (.builtin id))(ha:PA X (e::es) t)(hn:x≠"__name__":=by decide)(hdb:(x==("__debug__":Str))=false:=by decide)
  (he:starEach (e::es) X.env=(false,eval e X.env)::starEach es X.env:=by rfl) (hpl:(backTo pos (starEach es X.env)).any (·.1)=false:=by rfl):PE X (.Call (.Name x p) (e::es) [] pos) (tCB r t):=by
 intro pins s σ H Q I h;refine B6 (dX I hg hm hv ?_ hn hdb);exact PyProof.Rows.callWith_builtin1 (ae (ha pos pins s σ H _ I h) fun us s1 ⟨vs,H1,I1,r1,q1⟩=>hc pins s1 σ H1 vs us Q I1 r1 q1) he hpl
theorem iE(hc:ay X (.type T) r)(hg:Gl X x)(hm:X.mg x=none)(hv:bootBuiltins x=some (.type T))(ha:PA X (e::es) t)(hn:x≠"__name__":=by decide)(hdb:(x==("__debug__":Str))=false:=by decide)
  (he:starEach (e::es) X.env=(false,eval e X.env)::starEach es X.env:=by rfl) (hpl:(backTo pos (starEach es X.env)).any (·.1)=false:=by rfl):PE X (.Call (.Name x p) (e::es) [] pos) (tCB r t):=by
 intro pins s σ H Q I h;refine B6 (dX I hg hm hv ?_ hn hdb);exact B9 (ae (ha pos pins s σ H _ I h) fun us s1 ⟨vs,H1,I1,r1,q1⟩=>hc pins s1 σ H1 vs us Q I1 r1 q1) he hpl
end
end L2
namespace HT
open PySem PyProof.Rows
noncomputable def lexLt:List Int->List Int->Bool
 | [],[]=>false
 | [],_::_=>true
 | _::_,[]=>false
 | x::xs,y::ys=>if x=y then lexLt xs ys else decide (x<y)
theorem lb(x y:Int)(xs ys:List Int):lexLt (x::xs) (y::ys)=if x=y then lexLt xs ys else decide (x<y):=rfl
theorem gr:lexLt [] []=false:=rfl
theorem gL(y:Int)(ys:List Int):lexLt [] (y::ys)=true:=rfl
theorem gM(x:Int)(xs:List Int):lexLt (x::xs) []=false:=rfl
theorem sK(A:Around)(s:Shared)(a:Int)(t:Tok)(c:Int)(u:Tok):∃e,SeqAt.EqAt A s (.int a t) (.int c u) e/\(e=true↔a=c) :=
 ⟨(a==c),SeqAt.EqAt.int_int a t c u,by simp⟩
theorem qH(A:Around)(s:Shared)(a:Int)(t:Tok)(c:Int)(u:Tok)(prog:Program)(w:World)(E:Value->Shared->Prop)(Q:Value->Shared->Prop)(h:Q (.bool (decide (a<c))) s) :
  wpAny (model prog w) A (richCompare .Lt (.int a t) (.int c u)) Q E s :=
 (PyProof.Rows.lt_int h:wpAny (model prog w) A (compareOp .Lt (.int a t) (.int c u)) Q E s)
section
open PySem.SeqAt
open PySem.AutoSeq1 (wpAny_loadPart')
open PySem.MeetsSeq PySem.MeetsSeq2 PySem.MeetsSeq3
theorem gm(l b:Addr)(items items2:Array Value)(n n2:Nat)(dd dd2:Option Addr)(sl sl2:Array (Option Value))(ns ms:List Int)(hi:IntsAre items.toList ns)(hj:IntsAre items2.toList ms) :
  Meets (Builtin.«tuple.__lt__» ⟨[.ref l,.ref b],[]⟩)
   (fun _ R s=>s.heap.get? l=some {cls:=.type "tuple",dict:=dd,data:=.seq items n,slots:=sl}/\s.heap.get? b=some {cls:=.type "tuple",dict:=dd2,data:=.seq items2 n2,slots:=sl2} /\
    R (.ok (.ret (.bool (lexLt ns ms)))) s) :=
 .of_wp fun prog w A R s h=>by
  obtain⟨hp,g,d,tk,os⟩:=s;obtain⟨hl,hb,h⟩:=h;have f2:=AutoSeq1.sub_tuple_tuple;have z1:items.size=ns.length:=by rw[<- hi.length];simp
  have z2:items2.size=ms.length:=by rw[<- hj.length];simp
  wp_walk using Cm hl,Cm hb,wpAny_forIn_list _ (fun aO b s' =>b.1=none/\s' =⟨hp,g,d,tk,os⟩/\∃(vs ws:List Value)(ns' ms' :List Int),aO=vs.zip ws /\
   IntsAre vs ns' /\IntsAre ws ms' /\ns'.length+items2.size=ms'.length+items.size/\R (.ok (.ret (.bool (lexLt ns' ms')))) ⟨hp,g,d,tk,os⟩) _
  case turn =>
   rintro⟨y,x⟩ aO b s' ⟨hb',rfl,vs,ws,ns',ms',hz,hvi,hwi,hlen,hR⟩;cases hvi with
   | nil=>rw[List.zip_nil_left]at hz;cases hz
   | cons a t hvi' =>
    cases hwi with
    | nil=>rw[List.zip_nil_right]at hz;cases hz
    | cons c u hwi' =>
     rw[List.zip_cons_cons]at hz
     injection hz with hyx hrest
     injection hyx with hy hx
     subst hy hx;rw[lb]at hR;simp only[BS]at hlen;obtain⟨e,he,hiff⟩:=sK A.in1 ⟨hp,g,d,tk,os⟩ a t c u;refine A8 (he prog w _ _ ?_);cases e with
     | true =>
      rw[BK (hiff.mp rfl)]at hR
      wp_walk
      exact⟨rfl,rfl,_,_,_,_,hrest,hvi',hwi',by omega,hR⟩
     | false =>
      rw[BI (fun q=>absurd (hiff.mpr q) BC)]at hR;have hri:=qH A.in1 ⟨hp,g,d,tk,os⟩ a t c u prog w
      wp_walk using hri
      exact⟨_,rfl,by simpa using hR⟩
  case fin =>
   rintro⟨b1,b2⟩ s' ⟨hb',rfl,vs,ws,ns',ms',hz,hvi,hwi,hlen,hR⟩;simp only at hb';subst hb';have hv:lexLt ns' ms' =decide (items.size<items2.size):=by
    cases hvi with
    | nil =>
     cases hwi with
     | nil =>
      simp only[CT]at hlen;rw[gr];exact(Bh (by omega)).symm
     | cons c u hw =>
      simp only[CT,BS]at hlen;rw[gL];exact(CB (by omega)).symm
    | cons a t hv =>
     cases hwi with
     | nil =>
      simp only[CT,BS]at hlen;rw[gM];exact(Bh (by omega)).symm
     | cons c u hw =>
      rw[List.zip_cons_cons]at hz;cases hz
   rw[hv]at hR
   wp_walk
   exact⟨_,rfl,by simpa [Builtin.Tuple.tupleCompareSizes]using hR⟩
  case h =>
   exact⟨rfl,rfl,items.toList,items2.toList,ns,ms,rfl,hi,hj,by omega,h⟩
end
section
variable{prog:Program}{w:World}{A:Around}{E:Value->Shared->Prop}{s:Shared}
theorem la{l b:Addr}{items items2:Array Value}{ns ms:List Int}{Q:Value->Shared->Prop}(hl:IsTup s.heap l items)(hb:IsTup s.heap b items2)(hi:IntsAre items.toList ns)(hj:IntsAre items2.toList ms)
  (hu:A.units<cLine) (h:Q (.bool (lexLt ns ms)) s):wpAny (model prog w) A (compareOp .Lt (.ref l) (.ref b)) Q E s:=by
 obtain⟨⟨cls,dd,data,sl⟩,ho,hc,n,hd⟩:=id hl;obtain⟨⟨cls2,dd2,data2,sl2⟩,ho2,hc2,n2,hd2⟩:=id hb;simp only at hc hd hc2 hd2;subst hc hd hc2 hd2
 exact richCompare_meets_room (op:=.Lt) ⟨_,ho,rfl⟩ ⟨_,ho2,rfl⟩ PySem.F.slot_tuple_lt PySem.F.entry_tuple_lt (PySem.F.args_tuple_lt_2 _ _) (gm l b items items2 n n2 dd dd2 sl sl2 ns ms hi hj)
  ⟨ho,ho2,show Value.bool (lexLt ns ms)≠Value.notImplemented/\Q (.bool (lexLt ns ms)) s from⟨(fun x=>nomatch x),h⟩⟩ hu
theorem vW{t b:Addr}{vs ws:List Value}{Q:Value->Shared->Prop}(ht:IsTup s.heap t vs.toArray)(hb:IsTup s.heap b ws.toArray)(hv:vs≠[])
  (h1:ws=[]->Q (.ref t) s) (h2:ws≠[]->Q (.ref s.heap.objs.size) {s with heap:=s.heap.push {cls:=.type "tuple",data:=.seq (vs++ws).toArray}})
  (hsz:vs.length+ws.length<=sizeLine):wpAny (model prog w) A (binaryOp .Add (.ref t) (.ref b)) Q E s:=by
 obtain⟨⟨cls,dd,data,sl⟩,ho,hc,n,hd⟩:=id ht;obtain⟨⟨cls2,dd2,data2,sl2⟩,ho2,hc2,n2,hd2⟩:=id hb;simp only at hc hd hc2 hd2;subst hc hd hc2 hd2;have e:vs.toArray++ws.toArray=(vs++ws).toArray:=by simp
 by_cases hw:ws=[]
 ·exact concat_meets ⟨_,ho,rfl⟩ ⟨_,ho2,rfl⟩ noFill_tuple_add seq_tuple_add PySem.F.slot_tuple_add PySem.F.entry_tuple_add (DJ _ _)
   (tuple_addW1 t b vs.toArray ws.toArray n n2 dd dd2 sl sl2 (by simpa using hv) (by simp[hw])) ⟨ho,ho2,h1 hw⟩
 ·refine concat_meets ⟨_,ho,rfl⟩ ⟨_,ho2,rfl⟩ noFill_tuple_add seq_tuple_add PySem.F.slot_tuple_add PySem.F.entry_tuple_add (DJ _ _)
   (tuple_addW2 t b vs.toArray ws.toArray n n2 dd dd2 sl sl2 (by simpa using hv) (by simpa using hw) (by rw[BH,BH];exact hsz)) ⟨ho,ho2,?_⟩
  rw[e];exact h2 hw
noncomputable def au(n d:Nat):Option Int->Nat
 | none=>d
 | some v=>if v<0 then(v+(n:Int)).toNat else min v.toNat n
theorem mZ(n d k:Nat):au n d (some (k:Int))=min k n:=by
 show(if(k:Int)<0 then((k:Int)+(n:Int)).toNat else min (k:Int).toNat n)=min k n;rw[BI (by omega),Int.toNat_natCast]
theorem wy(n d:Nat)(hd:d<=n)(o:Option Int):au n d o<=n:=by
 cases o with
 | none=>exact hd
 | some v =>
  show(if v<0 then(v+(n:Int)).toNat else min v.toNat n)<=n
  by_cases hv:v<0
  ·rw[BK hv];omega
  ·rw[BI hv];exact Nat.min_le_right _ _
theorem ni(v:Int)(n d:Nat):(if v<0 then max (v+(n:Int)) 0 else min v (n:Int))=((au n d (some v):Nat):Int):=by
 show(if v<0 then max (v+(n:Int)) 0 else min v (n:Int))=(((if v<0 then(v+(n:Int)).toNat else min v.toNat n):Nat):Int)
 by_cases hv:v<0
 ·simp only[BK hv];omega
 ·simp only[BI hv];omega
theorem mL(lo hi:Option Int)(n:Nat):Builtin.Slice.sliceAdjust lo hi 1 (n:Int)=(((au n 0 lo:Nat):Int),((au n n hi:Nat):Int)):=by
 have h1:¬((1:Int)<0):=by omega
 unfold Builtin.Slice.sliceAdjust;simp only[h1,C8];refine Prod.ext ?_ ?_
 ·cases lo with
  | none=>rfl
  | some v=>exact ni v n 0
 ·cases hi with
  | none=>rfl
  | some v=>exact ni v n n
theorem lN(i j:Nat):Builtin.Slice.slicePlaces (i:Int) (j:Int) 1=j-i:=by
 unfold Builtin.Slice.slicePlaces;have h1:(1:Int)>0:=by omega
 simp only[h1,CK,Int.ediv_one]
 split<;>omega
theorem gC{v:Value}{o:Option Int}{Q:Option Int->Shared->Prop}(p:IsPart v o)(h:Q o s):wpAny (model prog w) A (Builtin.Slice.slicePartIndex v) Q E s:=by
 cases p with
 | none=>exact slicePart_none h
 | int i t=>exact slicePart_int h
theorem cF{sl:Addr}{vl vu:Value}{lo hi:Option Int}{n:Nat}{Q:Int×Int×Nat->Shared->Prop}(hs:s.heap.IsSliceOf sl vl vu .none)(pl:IsPart vl lo)(pu:IsPart vu hi)
  (h:Q (((au n 0 lo:Nat):Int),1,au n n hi-au n 0 lo) s):wpAny (model prog w) A (Builtin.Slice.sliceApplied (.ref sl) (pure (n:Int))) Q E s:=by
 obtain⟨os,hos,hcs,hds⟩:=id hs;unfold Builtin.Slice.sliceApplied Builtin.Slice.sliceFields;refine A8 (A8 (C9 hos hds (x:=vl) rfl (A8 (C9 hos hds (x:=vu) rfl (A8 (C9 hos hds (x:=.none) rfl (BG ?_)))))));refine A8 (slicePart_none ?_);show wpAny _ _ (if((1:Int)==0)=true then _ else _) _ _ s;rw[BI (by decide)];refine A8 (gC pl (A8 (gC pu (A8 (BG ?_)))));show wpAny _ _ (match Builtin.Slice.sliceAdjust lo hi 1 (n:Int)with|(lo,hi)=>pure (lo,(1:Int),Builtin.Slice.slicePlaces lo hi 1)) _ _ s;rw[mL lo hi n];show wpAny _ _ (pure (((au n 0 lo:Nat):Int),(1:Int),Builtin.Slice.slicePlaces ((au n 0 lo:Nat):Int) ((au n n hi:Nat):Int) 1)) _ _ s;rw[lN];exact BG h
theorem qV(xs:Array Value)(i k:Nat):((List.range k).filterMap fun(m:Nat)=>xs[((i:Int)+(m:Int)*1).toNat]?).toArray=((xs.toList.drop i).take k).toArray:=by
 have e:(fun(m:Nat)=>xs[((i:Int)+(m:Int)*1).toNat]?)=fun m=>xs[i+m]? :=by
  funext m
  have:((i:Int)+(m:Int)*1).toNat=i+m:=by omega
  rw[this]
 rw[e];have:=pick_run xs i k;rw[List.filterMap_map]at this;have e2:((fun x=>xs[x]?)∘fun x=>i+x)=fun m=>xs[i+m]? :=rfl;rw[e2]at this;rw[this]
theorem dz{t sl:Addr}{items:Array Value}{vl vu:Value}{lo hi:Option Int}{Q:Value->Shared->Prop}(ht:IsTup s.heap t items)(hs:s.heap.IsSliceOf sl vl vu .none)(pl:IsPart vl lo)(pu:IsPart vu hi)
  (hw:¬(au items.size 0 lo=0/\au items.size items.size hi=items.size))
  (h:Q (.ref s.heap.objs.size) {s with heap:=s.heap.push {cls:=.type "tuple",data:=.seq ((items.toList.drop (au items.size 0 lo)).take (au items.size items.size hi-au items.size 0 lo)).toArray}})
  (hsz:items.size<=sizeLine):wpAny (model prog w) A (getItem (.ref t) (.ref sl)) Q E s:=by
 have htake:sizeOk (.seq ((items.toList.drop (au items.size 0 lo)).take (au items.size items.size hi-au items.size 0 lo)).toArray):=by
  show((items.toList.drop (au items.size 0 lo)).take (au items.size items.size hi-au items.size 0 lo)).toArray.size<=sizeLine;rw[BH,CN,CO,Br];omega
 have hj:au items.size items.size hi<=items.size:=wy _ _ (BD _) hi;obtain⟨os,hos,hcs,hds⟩:=id hs;have hTs:s.TypeIs (.ref sl) "slice":=⟨os,hos,hcs⟩;unfold getItem
 try with_reducible refine B2 ?_
 first|refine A8 (BG ?_)|skip
 refine A8 (wpAny_sequenceKey ht.typeIs (by decide) ?_)
 refine A8 (wpAny_callSpecial?_slot (name:=Str.ofString "__getitem__") ht.typeIs Bu
  (wpAny_call_entry Bu ht.typeIs entry_tuple_getitem ?_ (args_tuple_getitem _ _)))
 show wpAny _ _ (Builtin.Tuple.tupleItemsOf (.ref t) >>= _) _ _ s;refine A8 (tupleItemsOf_ ht ?_);refine A8 (wpAny_typeOf hTs ?_);rw[BK (by decide)];refine A8 (cF hs pl pu ?_);have hno:¬((((au items.size 0 lo:Nat):Int)==0&&(1:Int)==1&&(au items.size items.size hi-au items.size 0 lo)==items.size)=true):=by
  intro q;rw[BB,BB]at q;have q1:((au items.size 0 lo:Nat):Int)=0:=BW q.1.1;have q2:au items.size items.size hi-au items.size 0 lo=items.size:=BW q.2;exact hw ⟨by omega,by omega⟩
 show wpAny _ _ (if(((au items.size 0 lo:Nat):Int)==0&&(1:Int)==1&&(au items.size items.size hi-au items.size 0 lo)==items.size)=true then _ else _) _ _ s;rw[BI hno,qV]
 first
  | exact A8 (m:=Builtin.Tuple.tupleExact _) (Cb (BG ⟨_,rfl,BG h⟩) htake)
  | exact A8 (m:=Builtin.Tuple.tupleExact _) (Cb (A8 (BG (BG ⟨_,rfl,BG h⟩))) htake)
  | exact A8 (A8 (m:=Builtin.Tuple.tupleExact _) (Cb (BG (BG ⟨_,rfl,BG h⟩)) htake))
  | exact A8 (A8 (m:=Builtin.Tuple.tupleExact _) (Cb (BG ⟨_,rfl,BG h⟩) htake))
end
end HT
namespace L2
open PySem PySem.Spec PyProof.Rows
noncomputable abbrev TO:=St->Hp->(Option Int->Hp->Prop)->Prop
noncomputable def PO(X:Cx)(e:Option Expr)(t:TO):Prop :=
 ∀(pins:List (Addr×Obj))(s:Shared)(σ:St)(H:Hp)(Q:Option Int->Hp->Prop),Inv X pins σ H s->t σ H Q ->
  wpAny (model X.prog X.w) X.A (evalPart e X.env) (fun u s' =>∃o H',Inv X pins σ H' s' /\IsPart u o/\Q o H') X.xe s
noncomputable def tu:TO:=fun _ H Q=>Q none H
noncomputable def zU(t:TE):TO:=fun σ H Q=>t σ H fun x H1=>∃i,x=.int i/\Q (some i) H1
theorem intsAre_of{ns:List Int}:∀{us:List Value},aI (ns.map V.int) us->IntsAre us ns:=by
 induction ns with
 | nil=>intro us r;rw[Ca]at r;cases r;exact .nil
 | cons n ns ih =>
  intro us r;rw[BZ]at r;cases r with
  | cons r1 r2 =>
   obtain⟨t,e⟩:=r1;subst e;exact .cons n t (ih r2)
section
variable{X:Cx}{e:Expr}{te:TE}{lo hi:Option Expr}{tl th:TO}{pos p2:Pos}
theorem uU:PO X none tu:=by
 intro pins s σ H Q I h;rw[evalPart_none];exact BG ⟨none,H,I,.none,h⟩
theorem uT(h:PE X e te):PO X (some e) (zU te):=by
 intro pins s σ H Q I hw;rw[evalPart_some];refine ae (h pins s σ H _ I hw) fun u s1 hpq=> ?_;obtain⟨x,H1,I1,r1,q1⟩:=hpq;obtain⟨i,rfl,q⟩:=q1;obtain⟨t,rfl⟩:=r1;exact⟨some i,H1,I1,.int i t,q⟩
noncomputable def yz(X:Cx)(r:V->Option Int->Option Int->Hp->VK->Prop):Prop :=
 ∀(pins:List (Addr×Obj))(s:Shared)(σ:St)(H:Hp)(x:V)(v vl vu:Value)(lo hi:Option Int)(sl:Addr)(Q:VK),Inv X pins σ H s->RelV x v->s.heap.IsSliceOf sl vl vu .none->IsPart vl lo->IsPart vu hi->r x lo hi H Q ->
  ∃T id,typeLookup (.type T) "__getitem__"=pure (some (.builtin id))/\s.TypeIs v T/\wpAny (model X.prog X.w) X.A (getItem v (.ref sl)) (EP X pins σ Q) X.xe s
noncomputable def tSl(r:V->Option Int->Option Int->Hp->VK->Prop)(te:TE)(tl th:TO):TE:=fun σ H Q=>te σ H fun x H1=>tl σ H1 fun l H2=>th σ H2 fun u H3=>r x l u H3 Q
theorem qZ{r:V->Option Int->Option Int->Hp->VK->Prop}(hr:yz X r)(he:PE X e te)(hl:PO X lo tl)(hu:PO X hi th):PE X (.Subscript e (.Slice lo hi none p2) pos) (tSl r te tl th):=by
 intro pins s σ H Q I h;refine Subscript_ (ae (he pins s σ H _ I h) fun v s1 hpq=> ?_);obtain⟨x,H1,I1,r1,q1⟩:=hpq;refine wpAny_Slice (ae (hl pins s1 σ H1 _ I1 q1) fun vl s2 ⟨l,H2,I2,pl,q2⟩=>ae (hu pins s2 σ H2 _ I2 q2) fun vu s3 hpq=> ?_);obtain⟨u,H3,I3,pu,q3⟩:=hpq;rw[evalPart_none];refine BG ?_;have I4:Inv X pins σ H3 {s3 with heap:=s3.heap.push {cls:=.type "slice",data:=.fields #[vl,vu,.none]}}:=I3.kept (t' :=s3.toks) fun b ob q=>BA _ q;obtain⟨T,id,hT,ht,hg⟩:=hr pins {s3 with heap:=s3.heap.push {cls:=.type "slice",data:=.fields #[vl,vu,.none]}} σ H3 x v vl vu l u s3.heap.objs.size Q I4 r1 (Heap.IsSliceOf.new ..) pl pu q3;show wpAny (model X.prog X.w) X.A (subscriptTail e (.Slice lo hi none p2) v (.ref s3.heap.objs.size)) (EP X pins σ Q) X.xe {s3 with heap:=s3.heap.push {cls:=.type "slice",data:=.fields #[vl,vu,.none]}};exact tail_any (ops:=[.ref s3.heap.objs.size,v]) ht hT hg (by with_unfolding_all rfl)
noncomputable def km(xs:List V)(lo hi:Option Int):List V:=(xs.drop (HT.au xs.length 0 lo)).take (HT.au xs.length xs.length hi-HT.au xs.length 0 lo)
theorem ez(xs:List V)(lo hi:Option Int):(km xs lo hi).length<=xs.length:=by
 unfold km;rw[CN,CO];omega
noncomputable def rSlT(K:W.Frag):V->Option Int->Option Int->Hp->VK->Prop:=fun x lo hi H Q=>∃a xs,x=.ref a/\bI K H a xs /\
 ¬(HT.au xs.length 0 lo=0/\HT.au xs.length xs.length hi=xs.length)/\∀p,H p=none->Q (.ref p) (upd H p (.tup (km xs lo hi)))
theorem wu:yz X (rSlT X.K):=by
 intro pins s σ H x v vl vu lo hi sl Q I rx hs pl pu h;obtain⟨a,xs,rfl,hx,hw,q⟩:=h;cases rx;obtain⟨its,r,ht,hz⟩:=I.tuple hx;have hlen:its.toArray.size=xs.length:=by rw[BH];exact r.length.symm
 refine⟨"tuple",_,Bu.lookup,ht.typeIs,?_⟩;refine HT.dz ht hs pl pu (by rw[hlen];exact hw) ?_ (by rw[hlen];exact hz);rw[hlen];refine⟨.ref s.heap.objs.size,_,I.laid (t' :=s.toks) (o:=.tup (km xs lo hi)) (fun b ob q=>BA _ q) (BD _) ?_,rfl,q _ (I.hok.fresh (BD _))⟩;exact⟨Ba (ez xs lo hi) hz,_,(r.drop (HT.au xs.length 0 lo)).take (HT.au xs.length xs.length hi-HT.au xs.length 0 lo),cw.new _ _⟩
noncomputable def rLtT(K:W.Frag):R2:=fun x y H Q=>∃a b ns ms,x=.ref a/\y=.ref b/\bI K H a (ns.map V.int)/\bI K H b (ms.map V.int)/\Q (.bl (HT.lexLt ns ms)) H
theorem qv(hu:X.A.units<cLine):cO X (compareOp .Lt) (rLtT X.K):=by
 intro pins s σ H x y v u Q I rx ry h;obtain⟨a,b,ns,ms,rfl,rfl,ha,hb,q⟩:=h;cases rx;cases ry;obtain⟨its,r1,p1,_⟩:=I.tuple ha;obtain⟨its2,r2,p2,_⟩:=I.tuple hb;have i1:IntsAre its.toArray.toList ns:=intsAre_of r1;have i2:IntsAre its2.toArray.toList ms:=intsAre_of r2;exact HT.la p1 p2 i1 i2 hu ⟨.bl (HT.lexLt ns ms),H,I,rfl,q⟩
noncomputable def zu(K:W.Frag):R2:=fun x y H Q=>∃a b xs ys,x=.ref a/\y=.ref b/\bI K H a xs/\bI K H b ys/\xs≠[]/\xs.length+ys.length<=sizeLine /\
 (ys=[]->Q (.ref a) H)/\(ys≠[]->∀p,H p=none->Q (.ref p) (upd H p (.tup (xs++ys))))
theorem aI.nil_iff{xs:List V}{us:List Value}(r:aI xs us):us=[]↔xs=[]:=by
 cases r with
 | nil=>simp
 | cons _ _=>simp
theorem uf:cO X (binaryOp .Add) (zu X.K):=by
 intro pins s σ H x y v u Q I rx ry h;obtain⟨a,b,xs,ys,rfl,rfl,ha,hb,hx,hz,q1,q2⟩:=h;cases rx;cases ry;obtain⟨its,r1,p1,_⟩:=I.tuple ha;obtain⟨its2,r2,p2,_⟩:=I.tuple hb;refine HT.vW p1 p2 (fun z=>hx (r1.nil_iff.mp z)) (fun z=>⟨.ref a,H,I,rfl,q1 (r2.nil_iff.mp z)⟩) (fun z=> ?_) (by rw[<- r1.length,<-r2.length];exact hz);refine⟨.ref s.heap.objs.size,_,I.laid (t' :=s.toks) (o:=.tup (xs++ys)) (fun b ob q=>BA _ q) (BD _) ?_,rfl,q2 (fun w=>z (r2.nil_iff.mpr w)) _ (I.hok.fresh (BD _))⟩;exact⟨by rw[BL];exact hz,_,r1.append r2,cw.new _ _⟩
end
noncomputable def uz(n:Nat)(i:Int):Option Nat:=if 0<=i then(if i<n then some i.toNat else none)else if -(n:Int)<=i then some (i+n).toNat else none
noncomputable def dN{α:Type}(xs:List α)(i:Int):Option α:=(uz xs.length i).bind fun j=>xs[j]?
theorem uy{n:Nat}{i:Int}{j:Nat}(h:uz n i=some j):seqIndex? i n=some j/\j<n/\ -(n:Int)<=i/\i<n:=by
 unfold uz at h
 by_cases h0:0<=i
 ·rw[BK h0]at h
  by_cases h1:i<n
  ·rw[BK h1]at h
   have e:i.toNat=j:=Bc h;exact⟨by rw[seqIndex_of h0 h1,e],by omega,by omega,h1⟩
  ·rw[BI h1]at h;cases h
 ·rw[BI h0]at h
  by_cases h1: -(n:Int)<=i
  ·rw[BK h1]at h
   have e:(i+n).toNat=j:=Bc h;exact⟨by rw[seqIndex_neg (by omega) h1,e],by omega,h1,by omega⟩
  ·rw[BI h1]at h;cases h
theorem jQ{α:Type}{xs:List α}{i:Int}{v:α}(h:dN xs i=some v):∃j,seqIndex? i xs.length=some j/\xs[j]? =some v/\j<xs.length/\ -(xs.length:Int)<=i/\i<xs.length:=by
 unfold dN at h;cases e:uz xs.length i with
 | none=>rw[e]at h;cases h
 | some j =>
  rw[e]at h;obtain⟨h1,h2,h3,h4⟩:=uy e;exact⟨j,h1,h,h2,h3,h4⟩
theorem fi{α:Type}{xs:List α}{j:Nat}{v:α}(h:xs[j]? =some v):dN xs (j:Int)=some v:=by
 have hj:j<xs.length:=(BM.mp h).1;have e:uz xs.length (j:Int)=some j:=by
  unfold uz;rw[BK (by omega),BK (by omega)];simp
 unfold dN;rw[e];exact h
noncomputable def nj(b:Expr):Prop:=∀o i,subscripted b false o i=operate [o,i] (getItem o i)
noncomputable def Ay(X:Cx)(r:R2):Prop :=
 ∀(value slice:Expr)(pins:List (Addr×Obj))(s:Shared)(σ:St)(H:Hp)(x y:V)(v u:Value)(Q:VK),Inv X pins σ H s->RelV x v->RelV y u->r x y H Q ->
  subscripted slice false v u=operate [v,u] (getItem v u)->wpAny (model X.prog X.w) X.A (subscriptTail value slice v u) (EP X pins σ Q) X.xe s
noncomputable def MtR(X:Cx)(id:String)(r:V->List V->Hp->VK->Prop):Prop :=
 ∀(pins:List (Addr×Obj))(s:Shared)(σ:St)(H:Hp)(x:V)(xs:List V)(v:Value)(us:List Value)(Q:VK),Inv X pins σ H s->RelV x v->aI xs us->r x xs H Q ->
  wpAny (model X.prog X.w) X.A (call (.builtin id) (v::us)) (EP X pins σ Q) X.xe s
section
variable{X:Cx}{a b:Expr}{ta tb:TE}{pos:Pos}
theorem qi{r:R2}(hr:Ay X r)(ha:PE X a ta)(hb:PE X b tb)(hs:nj b):PE X (.Subscript a b pos) (tOp r ta tb):=by
 intro pins s σ H Q I h;exact Subscript_ (yZ ha hb I h fun v u s2 x y H2 I2 rx ry q=>hr a b pins s2 σ H2 x y v u Q I2 rx ry q (hs _ _))
noncomputable def rIxL(K:W.Frag):R2:=fun x y H Q=>∃p xs i v,x=.ref p/\y=.int i/\aj K H p xs/\dN xs i=some v/\Q v H
noncomputable def rIxT(K:W.Frag):R2:=fun x y H Q=>∃p xs i v,x=.ref p/\y=.int i/\bI K H p xs/\dN xs i=some v/\Q v H
noncomputable def rIxS:R2:=fun x y H Q=>∃z i c,x=.str z/\y=.int i/\z.length<=sizeLine/\dN z.cps.toList i=some c/\Q (.str ⟨#[c]⟩) H
theorem dv:Ay X (rIxL X.K):=by
 intro value slice pins s σ H x y v u Q I rx ry h hs;obtain⟨p,xs,i,z,rfl,rfl,hq,he,q⟩:=h;cases rx;obtain⟨t,rfl⟩:=ry;obtain⟨its,r,pl,hz⟩:=I.list hq;obtain⟨j,h1,h2,h3,h4,h5⟩:=jQ he;obtain⟨w,ew,rw'⟩:=r.get h2;have hl:=r.length;have hn:=eL;have fin:EP X pins σ Q w s:=⟨z,H,I,rw',q⟩
 by_cases h0:0<=i
 ·have hj:i.toNat=j:=by
   rw[seqIndex_of h0 h5]at h1;exact Bc h1
  exact item_listR pl.isList h0 (by omega) (by rw[hj];simpa using ew) fin hs
 ·have hj:(i+(its.toArray.size:Int)).toNat=j:=by
   rw[seqIndex_neg (by omega) h4]at h1;rw[BH,<-hl];exact Bc h1
  exact subscriptTail_builtinR (x:=w) pl.isList.typeIs slot_list_getitem.lookup
   (wpAny_getItem_list_neg (Q:=fun r s' =>r=w/\EP X pins σ Q r s') pl.isList (by omega) (by rw[BH]<;>omega) (by omega) (by rw[hj];simpa using ew) ⟨rfl,fin⟩) hs
theorem rR:Ay X (rIxT X.K):=by
 intro value slice pins s σ H x y v u Q I rx ry h hs;obtain⟨p,xs,i,z,rfl,rfl,hq,he,q⟩:=h;cases rx;obtain⟨t,rfl⟩:=ry;obtain⟨its,r,pl,hz⟩:=I.tuple hq;obtain⟨j,h1,h2,h3,h4,h5⟩:=jQ he;obtain⟨w,ew,rw'⟩:=r.get h2;have hl:=r.length;have hn:=eL;have fin:EP X pins σ Q w s:=⟨z,H,I,rw',q⟩
 exact subscriptTail_builtinR (x:=w) pl.typeIs slot_tuple_getitem.lookup
  (getItem_tuple (j:=j) (Q:=fun r s' =>r=w/\EP X pins σ Q r s') pl (by omega) (by omega) (by rw[BH,<-hl];exact h1) (by simpa using ew) ⟨rfl,fin⟩) hs
theorem xw:Ay X rIxS:=by
 intro value slice pins s σ H x y v u Q I rx ry h hs;obtain⟨z,i,c,rfl,rfl,hz,he,q⟩:=h;obtain⟨t,rfl⟩:=rx;obtain⟨t',rfl⟩:=ry;obtain⟨j,h1,h2,h3,h4,h5⟩:=jQ he;have hl:z.cps.toList.length=z.length:=by simp[Str.length]
 rw[hl]at h1 h4 h5;have hn:=eL
 exact tail_any (typeIs_str s z t) slot_str_getitem.lookup (getItem_str (c:=c) (by
  have e1:decide (i< -(2^63:Int))=false:=Bh (by omega);have e2:decide (i ≥ 2^63)=false:=Bh (by omega);rw[e1,e2,Bool.or_false]) (by rw[h1];simpa using h2) ⟨.str ⟨#[c]⟩,H,I.tok _,⟨_,rfl⟩,q⟩) hs
theorem Inv.lst{pins:List (Addr×Obj)}{σ:St}{H:Hp}{s:Shared}{p:Addr}{xs:List V}(I:Inv X pins σ H s)(h:H p=some (.lst xs)) :
  ∃(its:List Value)(n:Nat),aI xs its/\s.heap.get? p=some {cls:=.type "list",data:=.seq its.toArray n}/\xs.length<=sizeLine:=by
 obtain⟨z,its,n,r,e⟩:=I.hok p _ h;exact⟨its,n,r,e,z⟩
theorem iY(lo hi:Option Int)(n:Nat):(sliceBounds lo hi none n).1=((HT.au n 0 lo:Nat):Int)/\(sliceBounds lo hi none n).2.1=((HT.au n n hi:Nat):Int)/\(sliceBounds lo hi none n).2.2=1:=by
 refine⟨?_,?_,rfl⟩
 ·cases lo with
  | none=>simp[sliceBounds,HT.au]
  | some i =>
   simp only[sliceBounds,HT.au,Option.getD_none,show(1:Int)>0 by decide,CK]
   by_cases h:i<0
   ·simp only[h,CK]<;>omega
   ·simp only[h,C8]<;>omega
 ·cases hi with
  | none=>simp[sliceBounds,HT.au]
  | some i =>
   simp only[sliceBounds,HT.au,Option.getD_none,show(1:Int)>0 by decide,CK]
   by_cases h:i<0
   ·simp only[h,CK]<;>omega
   ·simp only[h,C8]<;>omega
theorem gp(its:List Value)(lo hi:Option Int):slicePick its.toArray lo hi none=((its.drop (HT.au its.length 0 lo)).take (HT.au its.length its.length hi-HT.au its.length 0 lo)).toArray:=by
 obtain⟨h1,h2,h3⟩:=iY lo hi its.toArray.size;unfold slicePick;rw[h1,h2,h3];simp only[sliceRange_one,pick_run,BH]<;>rfl
noncomputable def rSlL(K:W.Frag):V->Option Int->Option Int->Hp->VK->Prop:=fun x lo hi H Q=>∃a xs,x=.ref a/\aj K H a xs/\∀p,H p=none->Q (.ref p) (upd H p (.lst (km xs lo hi)))
theorem uA:yz X (rSlL X.K):=by
 intro pins s σ H x v vl vu lo hi sl Q I rx hs pl pu h;obtain⟨a,xs,rfl,hx,q⟩:=h;cases rx;obtain⟨its,r,ht,hz⟩:=I.list hx;have hlen:=r.length;refine⟨"list",_,slot_list_getitem.lookup,ht.isList.typeIs,?_⟩;refine wpAny_getItem_list_slice ht.isList hs pl pu .none (by simp) ?_ (by rw[BH]<;>omega);rw[gp,<-hlen];refine⟨.ref s.heap.objs.size,_,I.laid (t' :=s.toks) (o:=.lst (km xs lo hi)) (fun b ob q=>BA _ q) (BD _) ?_,rfl,q _ (I.hok.fresh (BD _))⟩;exact⟨Ba (ez xs lo hi) hz,_,0,(r.drop (HT.au xs.length 0 lo)).take (HT.au xs.length xs.length hi-HT.au xs.length 0 lo),BR _ rfl⟩
noncomputable def dL:V->Bool
 | .non=>true
 | .bl _=>true
 | .int _=>true
 | .str _=>true
 | _=>false
noncomputable def pK:V->V->Bool
 | .non,.non=>true
 | .bl a,.bl b=>a==b
 | .bl a,.int b=>(if a then 1 else 0)==b
 | .int a,.bl b=>a==(if b then 1 else 0)
 | .int a,.int b=>a==b
 | .str a,.str b=>a==b
 | _,_=>false
theorem yQ{A:Around}{s:Shared}{y x:V}{u v:Value}(ry:RelV y u)(rx:RelV x v)(fy:dL y=true)(fx:dL x=true):SeqAt.EqAt A s u v (pK y x):=by
 cases y with
 | non =>
  cases ry;cases x with
  | non=>cases rx;exact SeqAt.EqAt.same _
  | bl b=>cases rx;exact SeqAt.EqAt.none_bool b
  | int b=>obtain⟨t,rfl⟩:=rx;exact SeqAt.EqAt.none_int b t
  | str b=>obtain⟨t,rfl⟩:=rx;exact SeqAt.EqAt.none_str b t
  | _=>exact absurd (show false=true from fx) BC
 | bl a =>
  cases ry;cases x with
  | non=>cases rx;exact SeqAt.EqAt.bool_none a
  | bl b=>cases rx;exact SeqAt.EqAt.bool_bool a b
  | int b=>obtain⟨t,rfl⟩:=rx;exact SeqAt.EqAt.bool_int a b t
  | str b=>obtain⟨t,rfl⟩:=rx;exact SeqAt.EqAt.bool_str a b t
  | _=>exact absurd (show false=true from fx) BC
 | int a =>
  obtain⟨t',rfl⟩:=ry;cases x with
  | non=>cases rx;exact SeqAt.EqAt.int_none a t'
  | bl b=>cases rx;exact SeqAt.EqAt.int_bool a t' b
  | int b=>obtain⟨t,rfl⟩:=rx;exact SeqAt.EqAt.int_int a t' b t
  | str b=>obtain⟨t,rfl⟩:=rx;exact SeqAt.EqAt.int_str a t' b t
  | _=>exact absurd (show false=true from fx) BC
 | str a =>
  obtain⟨t',rfl⟩:=ry;cases x with
  | non=>cases rx;exact SeqAt.EqAt.str_none a t'
  | bl b=>cases rx;exact SeqAt.EqAt.str_bool a t' b
  | int b=>obtain⟨t,rfl⟩:=rx;exact SeqAt.EqAt.str_int a t' b t
  | str b=>obtain⟨t,rfl⟩:=rx;exact SeqAt.EqAt.str_str a t' b t
  | _=>exact absurd (show false=true from fx) BC
 | _=>exact absurd (show false=true from fy) BC
noncomputable def vK(x:V)(u:Value):Bool:=match u with
 | .none=>pK .non x
 | .bool b=>pK (.bl b) x
 | .int i _=>pK (.int i) x
 | .str z _=>pK (.str z) x
 | _=>false
theorem sF{x y:V}{u:Value}(r:RelV y u)(f:dL y=true):vK x u=pK y x:=by
 cases y with
 | non=>cases r;rfl
 | bl b=>cases r;rfl
 | int i=>obtain⟨t,rfl⟩:=r;rfl
 | str z=>obtain⟨t,rfl⟩:=r;rfl
 | _=>exact absurd (show false=true from f) BC
theorem jR{x:V}:∀{xs:List V}{us:List Value},aI xs us->xs.all dL=true->us.any (vK x)=xs.any fun y=>pK y x
 | _,_,.nil,_=>rfl
 | y::xs,u::us,.cons r t,f=>by
  rw[Cc,BB]at f;rw[Cq,Cq,sF r f.1,jR t f.2]
theorem gK{A:Around}{s:Shared}{x:V}{v:Value}(rx:RelV x v)(fx:dL x=true):∀{xs:List V}{us:List Value},aI xs us->xs.all dL=true->∀u∈us,SeqAt.EqAt A s u v (vK x u)
 | _,_,.nil,_=>fun u hu=>by cases hu
 | y::xs,u::us,.cons r t,f=>fun u' hu=>by
  rw[Cc,BB]at f
  rcases BP.mp hu with rfl|hu
  ·rw[sF r f.1];exact yQ r rx f.1 fx
  ·exact gK rx fx t f.2 u' hu
noncomputable def inV(x:V)(xs:List V):Bool:=xs.any fun y=>pK y x
noncomputable def rIn(K:W.Frag)(neg:Bool):R2:=fun x y H Q=>∃p xs,y=.ref p/\(aj K H p xs\/bI K H p xs)/\dL x=true/\xs.all dL=true/\Q (.bl (if neg then !inV x xs else inV x xs)) H
theorem oK:cO X (compareOp .In) (rIn X.K false):=by
 intro pins s σ H x y v u Q I rx ry h;obtain⟨p,xs,rfl,hq,fx,fs,q⟩:=h;cases ry
 rcases hq with hq|hq
 ·obtain⟨its,r,pl,hz⟩:=I.list hq
  refine SeqAt.in_listAt (vK x) pl.isList (fun w hw=>gK rx fx r fs w (by simpa using hw)) ⟨.bl _,H,I,rfl,?_⟩;rw[show its.toArray.any (vK x)=its.any (vK x)by simp,jR r fs];exact q
 ·obtain⟨its,r,pl,hz⟩:=I.tuple hq
  refine SeqAt.in_tupleAt (vK x) pl (fun w hw=>gK rx fx r fs w (by simpa using hw)) ⟨.bl _,H,I,rfl,?_⟩;rw[show its.toArray.any (vK x)=its.any (vK x)by simp,jR r fs];exact q
theorem eD:ay X (.builtin "len") (fun xs H Q=>∃p ys,xs=[.ref p]/\(aj X.K H p ys\/bI X.K H p ys)/\Q (.int ys.length) H):=by
 intro pins s σ H xs us Q I r h;obtain⟨p,ys,rfl,hq,q⟩:=h;obtain⟨u,rfl,rx⟩:=vals1 r;cases rx;have hn:=eL
 rcases hq with hq|hq
 ·obtain⟨its,r',pl,hz⟩:=I.list hq
  have hlen:=r'.length;exact Calls.call_len_list pl.isList (by simp only[BH]<;>omega) ⟨.int ys.length,H,I.tok _,⟨s.toks+1,by rw[BH,hlen]⟩,q⟩
 ·obtain⟨its,r',pl,hz⟩:=I.tuple hq
  have hlen:=r'.length;exact len_tuple pl (by simp only[BH]<;>omega) ⟨.int ys.length,H,I.tok _,⟨s.toks+1,by rw[BH,hlen]⟩,q⟩
theorem jN:ay X (.builtin "len") (fun xs H Q=>∃z,xs=[.str z]/\z.length<=sizeLine/\Q (.int z.length) H):=by
 intro pins s σ H xs us Q I r h;obtain⟨z,rfl,hz,q⟩:=h;obtain⟨u,rfl,t,rfl⟩:=vals1 r;have hn:=eL;exact len_str (by omega) ⟨.int z.length,H,I.tok _,⟨_,rfl⟩,q⟩
theorem jM:ay X (.type "list") (fun xs H Q=>∃p ys,xs=[.ref p]/\(aj X.K H p ys\/bI X.K H p ys)/\∀l,H l=none->Q (.ref l) (upd H l (.lst ys))):=by
 intro pins s σ H xs us Q I r h;obtain⟨p,ys,rfl,hq,q⟩:=h;obtain⟨u,rfl,rx⟩:=vals1 r;cases rx
 have fin:∀(its:List Value),aI ys its->ys.length<=sizeLine->∀(h' :Heap)(c' :Nat),(∀b o',s.heap.get? b=some o' ->h'.get? b=some o') ->
   h'.get? s.heap.objs.size=some {cls:=.type "list",dict:=none,data:=.seq its.toArray c',slots:= #[]}->EP X pins σ Q (.ref s.heap.objs.size) {s with heap:=h'}:=fun its r' hz h' c' kp e =>
  ⟨.ref s.heap.objs.size,_,I.laid (t' :=s.toks) kp (BD _) (show aY X.prog X.w _ h' _ (.lst ys)from⟨hz,its,c',r',e⟩),rfl,q _ (I.hok.fresh (BD _))⟩
 rcases hq with hq|hq
 ·obtain⟨its,r',pl,hz⟩:=I.list hq
  have hlen:=r'.length;obtain⟨o,ho,hc,n,hd⟩:=pl.isList;exact call_list_seq p (.inl rfl) ho hc hd (fun h' c' kp e=>fin its r' hz h' c' kp e) (by simp only[BH]<;>omega)
 ·obtain⟨its,r',pl,hz⟩:=I.tuple hq
  have hlen:=r'.length;obtain⟨o,ho,hc,n,hd⟩:=pl;exact call_list_seq p (.inr rfl) ho hc hd (fun h' c' kp e=>fin its r' hz h' c' kp e) (by simp only[BH]<;>omega)
theorem dM:ay X (.type "tuple") (fun xs H Q=>∃p ys,xs=[.ref p]/\((aj X.K H p ys/\∀l,H l=none->Q (.ref l) (upd H l (.tup ys)))\/(bI X.K H p ys/\Q (.ref p) H))):=by
 intro pins s σ H xs us Q I r h;obtain⟨p,ys,rfl,h⟩:=h;obtain⟨u,rfl,rx⟩:=vals1 r;cases rx
 rcases h with⟨hq,q⟩|⟨hq,q⟩
 ·obtain⟨its,r',pl,hz⟩:=I.list hq
  have hlen:=r'.length;refine call_tuple_list pl.isList (fun h' kp=> ?_) (by simp only[BH]<;>omega);have I1:Inv X pins σ H {s with heap:=h'}:=I.kept (t' :=s.toks) kp
  have I2:Inv X pins σ (upd H h'.objs.size (.tup ys)) {s with heap:=h'.push {cls:=.type "tuple",data:=.seq its.toArray}} :=
   I1.laid (t' :=s.toks) (fun b o e=>BA _ e) (BD _) (show aY X.prog X.w _ _ _ (.tup ys)from⟨hz,its,r',cw.new _ _⟩)
  exact⟨.ref h'.objs.size,_,I2,rfl,q _ (I1.hok.fresh (BD _))⟩
 ·obtain⟨its,r',pl,hz⟩:=I.tuple hq
  exact call_tuple_same pl ⟨.ref p,H,I,rfl,q⟩
noncomputable def tyV(K:W.Frag)(T:String)(x:V)(H:Hp):Prop:=match x with
 | .str _=>T="str"
 | .int _=>T="int"
 | .ref p=>(T="list"/\∃xs,aj K H p xs)\/(T="tuple"/\∃xs,bI K H p xs) \/
   (T="dict"/\((∃kvs,H p=some (.dK kvs))\/∃kvs,H p=some (.dT kvs)))\/(T="set"/\∃S n,H p=some (.set S n))
 | _=>False
theorem wW{pins:List (Addr×Obj)}{σ:St}{H:Hp}{s:Shared}{T:String}{x:V}{v:Value}(I:Inv X pins σ H s)(r:RelV x v)(ty:tyV X.K T x H) :
  s.TypeIs v T/\∀a,v=.ref a->∃ob,s.heap.get? a=some ob/\ob.dict=none:=by
 cases x with
 | str z =>
  obtain⟨t,rfl⟩:=r;cases(show T="str" from ty);exact⟨typeIs_str s z t,fun _ e=>nomatch e⟩
 | int i =>
  obtain⟨t,rfl⟩:=r;cases(show T="int" from ty);exact⟨typeIs_int s i t,fun _ e=>nomatch e⟩
 | ref p =>
  cases r
  rcases ty with⟨rfl,xs,hq⟩|⟨rfl,xs,hq⟩|⟨rfl,hk⟩|⟨rfl,S,n,hk⟩
  ·obtain⟨its,_,pl,_⟩:=I.list hq
   refine⟨pl.isList.typeIs,fun a e=> ?_⟩;cases e;obtain⟨o,n,e,c,hd,_⟩:=pl;exact⟨o,e,hd⟩
  ·obtain⟨o,e1,e2,e3⟩:=I.tupleD hq
   refine⟨⟨o,e1,e2⟩,fun a e=> ?_⟩;cases e;exact⟨o,e1,e3⟩
  ·have z:∃o,s.heap.get? p=some o/\o.ExactDict:=by
    rcases hk with⟨kvs,hk⟩|⟨kvs,hk⟩
    ·obtain⟨_,_,_,_,o,_,_,e,ex,_⟩:=I.hok p _ hk
     exact⟨o,e,ex⟩
    ·obtain⟨_,_,_,_,o,_,_,e,ex,_⟩:=I.hok p _ hk
     exact⟨o,e,ex⟩
   obtain⟨o,e,ex⟩:=z;refine⟨⟨o,e,ex.1⟩,fun a e2=> ?_⟩;cases e2;exact⟨o,e,ex.2.1⟩
  ·obtain⟨o,_,_,_,e,ex,_⟩:=I.hok p _ hk
   refine⟨⟨o,e,ex.1⟩,fun a e2=> ?_⟩;cases e2;exact⟨o,e,ex.2.1⟩
 | _=>exact False.elim ty
noncomputable def tBM(K:W.Frag)(T:String)(r:V->List V->Hp->VK->Prop)(to:TE)(t:TA):TE:=fun σ H Q=>to σ H fun x H1=>tyV K T x H1/\t σ H1 fun xs H2=>r x xs H2 Q
variable{o e:Expr}{es:List Expr}{to:TE}{t:TA}{name:Str}{apos cpos:Pos}{T id:String}{r:V->List V->Hp->VK->Prop}
theorem qp(pa:PlainAttrs T)(slot:Slot T name id)(hty:typeOf (.builtin id)=pure (.type "method_descriptor"))(hm:MtR X id r)(ho:PE X o to)(ha:PA X (e::es) t)
  (hbase:attributeBase o name X.env (eval o X.env)=eval o X.env:=by rfl)
  (hfew:((backTo cpos (starEach (e::es) X.env)).all (fun x=> !x.1)&&(backToKw cpos (keywordEach [] X.env)).all (fun x=>x.1.isSome)
   && decide ((e::es).length+([]:List Keyword).length+(if([]:List Keyword).isEmpty then 0 else 1)<30))=true:=by rfl)
  (hline:(apos.endLine==cpos.line)=true:=by rfl) (hs:starEach (e::es) X.env=(false,eval e X.env)::starEach es X.env:=by rfl) (hplain:(backTo cpos (starEach es X.env)).any (·.1)=false:=by rfl) :
  PE X (.Call (.Attribute o name apos) (e::es) [] cpos) (tBM X.K T r to t):=by
 intro pins s σ H Q I h;refine wpAny_Call_method_late hbase hfew hline rfl (ae (ho pins s σ H _ I h) fun v s1 hpq=> ?_);obtain⟨x,H1,I1,r1,ty,q1⟩:=hpq;obtain⟨h1,h2⟩:=wW I1 r1 ty;refine⟨T,id,pa,slot,hty,h1,h2,?_⟩;have hA:=ha cpos pins s1 σ H1 _ I1 q1;rw[hs]at hA ⊢;refine Calls.callWith_builtin (by show(false||(backTo cpos (starEach es X.env)).any (·.1))=false;rw[hplain]<;>rfl) (Calls.evalArgs_plain ?_);exact ae hA fun us s2 ⟨vs,H2,I2,r2,q2⟩=>hm pins s2 σ H2 x vs v us Q I2 r1 r2 q2
end
noncomputable def MtM(X:Cx)(id:String)(r:V->List V->Hp->VK->Prop):Prop :=
 ∀(pins:List (Addr×Obj))(s:Shared)(σ:St)(H:Hp)(x:V)(xs:List V)(v:Value)(us:List Value)(Q:VK),Inv X pins σ H s->RelV x v->aI xs us->r x xs H Q ->
  wpAny (model X.prog X.w) X.A (call (.builtin id) (v::us)) (EP X pins σ Q) X.xe s
theorem aI.one{x:V}{us:List Value}(h:aI [x] us):∃u,us=[u]/\RelV x u:=vals1 h
theorem aI.two{x y:V}{us:List Value}(h:aI [x,y] us):∃u v,us=[u,v]/\RelV x u/\RelV y v:=vals2 h
theorem aI.zero:∀{us:List Value},aI [] us->us=[]
 | _,.nil=>rfl
theorem aI.dropLast{xs:List V}{us:List Value}(h:aI xs us):aI xs.dropLast us.dropLast:=by
 induction h with
 | nil=>exact .nil
 | cons r t ih =>
  cases t with
  | nil=>exact .nil
  | cons q t' =>exact .cons r ih
theorem aI.reverse{xs:List V}{us:List Value}(h:aI xs us):aI xs.reverse us.reverse:=by
 induction h with
 | nil=>exact .nil
 | cons r t ih=>rw[List.reverse_cons,List.reverse_cons];exact aI.append ih (.cons r .nil)
section
variable{X:Cx}{pins:List (Addr×Obj)}{σ:St}{H:Hp}{s:Shared}{l b:Addr}{xs ys zs:List V}
theorem Inv.lset{its its' :List Value}{n:Nat}{f:Array Value->Array Value}{t' :Nat}(I:Inv X pins σ H s)(hH:H l=some (.lst xs))
  (e:s.heap.get? l=some {cls:=.type "list",data:=.seq its.toArray n}) (hf:f its.toArray=its'.toArray) (hv:aI ys its') (hz:ys.length<=sizeLine) :
  Inv X pins σ (upd H l (.lst ys)) {s with heap:=s.heap.update l (Obj.mapSeq f),toks:=t'}:=by
 have q:=PySem.IsL.update e f;rw[hf]at q;refine I.write (x:=l) (e:=l) (by rw[hH];exact trivial) (.inl rfl) (fun b' u hb hu=>(By s.heap (Obj.mapSeq f) (CQ hb)).trans hu) ⟨_,q⟩ ?_;exact⟨hz,its',_,hv,q⟩
theorem Inv.lnew{its:List Value}{t' :Nat}(I:Inv X pins σ H s)(hv:aI ys its)(hz:ys.length<=sizeLine) :
  Inv X pins σ (upd H s.heap.objs.size (.lst ys)) {s with heap:=s.heap.push {cls:=.type "list",data:=.seq its.toArray},toks:=t'} :=
 I.laid (fun _ _ q=>BA _ q) (BD _) ⟨hz,its,0,hv,BR _ rfl⟩
theorem Inv.fresh(I:Inv X pins σ H s):H s.heap.objs.size=none:=I.hok.fresh (BD _)
theorem Inv.lstM(I:Inv X pins σ H s)(hH:H l=some (.lst xs)):xs.length<=sizeLine/\∃(its:List Value)(n:Nat),aI xs its/\xs.length=its.length/\s.heap.get? l=some {cls:=.type "list",data:=.seq its.toArray n}:=by
 obtain⟨z,its,n,r,e⟩:=I.hok l _ hH;exact⟨z,its,n,r,r.length,e⟩
end
section
variable{X:Cx}
noncomputable def uK:V->List V->Hp->VK->Prop:=fun x vs H Q=>∃l xs y,x=.ref l/\vs=[y]/\H l=some (.lst xs)/\xs.length<sizeLine/\Q .non (upd H l (.lst (xs++[y])))
theorem iH:MtM X "list.append" uK:=by
 intro pins s σ H x vs v us Q I rx rv h;obtain⟨l,xs,y,rfl,rfl,hH,hz,q⟩:=h;cases rx;obtain⟨u,rfl,ru⟩:=rv.one;obtain⟨z,its,n,r,hl,e⟩:=I.lstM hH;refine call_meets F.slot_list_append ⟨_,e,rfl⟩ F.entry_list_append (F.args_list_append_2 _ _) (PySem.list_append l its.toArray n u (by rw[BH];omega)) ⟨e,?_⟩;refine⟨.non,_,I.lset (its' :=its++[u]) hH e (by simp) (r.append (.cons ru .nil)) ?_,rfl,q⟩;rw[BL,List.length_singleton];omega
end
section
variable{prog:Program}{w:World}{A:Around}{E:Value->Shared->Prop}{s:Shared}
end
section
variable{X:Cx}
end
end L2
namespace Att
open PySem PySem.W PySem.Calls PyProof.Rows
theorem fG{P:Params}{h:Heap}:∀(ns:List Int)(vs:List Value),WellAll P h vs (ns.map WData.int)->IntsAre vs ns:=by
 intro ns
 induction ns with
 | nil =>
  intro vs w;rw[Ca]at w;cases w;exact .nil
 | cons n ns ih =>
  intro vs w;rw[BZ]at w;cases w with
  | cons a b =>
   cases a;exact .cons _ _ (ih _ b)
theorem n6{l:OpenLaw}{n:Nat}(hn:l.most=some n){P:Params}{h:Heap}{args:List WData}{vals:List Value}
  (hpre:l.row.toRowW.claim.pre args=true) (hwl:WellAll P h vals args) :
  ∃a vs ns,vals=[Value.ref a]/\args=[WData.list (ns.map WData.int)]/\h.get? a=some {cls:=.type "list",data:=.seq vs.toArray}/\IntsAre vs ns/\ns.length<=n:=by
 have hsh:WShape.hasAll [] args [.list .int]=true:=(pre_splitW hpre).1;have hc:l.pre.holds [] {args:=args}=true:=(pre_splitW hpre).2;obtain⟨d,r,rfl,h1,h2⟩:=hasAllW_cons hsh;obtain rfl:=hasAllW_nil h2;obtain⟨xs,rfl,h3⟩:=hasW_list h1;obtain⟨ns,rfl⟩:=items_int h3;have hlen:ns.length<=n:=by
  unfold OpenLaw.pre at hc;have h4:(WTm.not (.lt (.lit (.int (n:Int))) (.len (.arg 0)))).holds [] {args:=[.list (ns.map .int)]}=true:=by
   have h4:=(holds_andW hc).1;rw[hn]at h4;exact h4
  have h5:=condW_of h4 (w_not (w_lt w_lit (w_len_list (w_arg rfl))));rw[BJ]at h5;refine Nat.le_of_not_lt fun q=> ?_;have q' :(n:Int)<((ns.length:Nat):Int):=by omega
  first
   | (rw[CB q']at h5;exact absurd h5 (by decide))
   | (simp at h5;omega)
 cases hwl with
 | cons w1 w2 =>
  cases w2;cases w1 with
  | list ho hall=>exact⟨_,_,ns,rfl,rfl,ho,fG ns _ hall,hlen⟩
theorem oE(l:OpenLaw)(args:List WData):l.row.toRowW.claim.post args (.bool true) args=true :=
 postW_of (r:=l.row.toRowW) (X:=(true==true))
  (show WShape.has [] (.bool true) .bool=true by first|rfl|decide|simp[WShape.has,WShape.arms,WShape.armsAll])
  (show(WTm.eq .res (.lit (.bool true))).value [] {args:=args,res:=some (.bool true),after:=args}=some (.bool (true==true))from w_eq_bool (w_res rfl) w_lit) rfl
theorem ky{l:OpenLaw}{n:Nat}{q:Program}{loose:List Str}{XP:(Str->Option Value)->Heap->Prop}{YP:World->Heap->Prop}{d:DefRec}
  (hn:l.most=some n) (hdf:d.params.defaults=[])
  (call:∀(w:World)(s₀ s₁:Shared)(mg mb:Str->Option Value)(fa:Addr)(o:Obj)(pm cd doc:Value)(a:Addr)(vs:List Value)(ns:List Int),
   Ground q loose [] XP w s₀ mg mb s₁.heap->YP w s₁.heap ->
   s₁.heap.get? fa=some o->o.data=.func (docDef d.name d.params d.body d.scope pm cd doc)->s₁.heap.CodeRec cd d.name->mg d.name=some (.ref fa) ->
   s₁.heap.get? a=some {cls:=.type "list",data:=.seq vs.toArray}->IntsAre vs ns->ns.length<=n->s₁.gens= #[] ->
   codeAny (model l.prog w) callerA (.call (.ref fa) ⟨[.ref a],[]⟩) (fun r s' =>r=.ok (.ret (.bool true))/\OldK s₁.heap s'.heap/\s'.os=s₁.os/\AllBare s'.gens) s₁) :
  WalkO q loose XP YP l.row.toRowW d [] (fun f vs=>PySem.call f vs):=by
 intro w s₀ s₁ mg mb G Y fa o pm cd doc dV kV ho hd hcd hD hmg hg args vals as hpre hlay hrd hwl hlo;obtain rfl:dV=.none:=Dflts.none hD hdf;obtain rfl:kV=.none:=Dflts.noKw hD;obtain⟨a,vs,ns,rfl,rfl,hobj,hints,hlen⟩:=n6 hn hpre hwl;refine enter_call (Cs (call w s₀ s₁ mg mb fa o pm cd doc a vs ns G Y ho (fd_plain hd) hcd hmg hobj hints hlen hg) fun r s' hq=> ?_);obtain⟨rfl,h2,h3,h4⟩:=hq;exact⟨.inl ⟨.bool true,.bool true,[],rfl,fun _=>rfl,.bool true,oE l _,fun _=>⟨List.Pairwise.nil,fun _ hm=>(nomatch hm)⟩⟩,h2,h3,h4⟩
section
variable{prog:Program}{w:World}{A:Around}{E:Value->Shared->Prop}{s:Shared}{K:Frag}
end
end Att
namespace L2
open PySem PySem.Spec PyProof.Rows
theorem nr{vs:List Value}{ns:List Int}(h:IntsAre vs ns):aI (ns.map V.int) vs:=by
 induction h with
 | nil=>exact .nil
 | cons n t h ih=>exact .cons ⟨t,rfl⟩ ih
noncomputable def yo(H:Hp):Prop:=∀b,H b=none\/∃o xs,H b=some (.frz o (.lst xs))
theorem rN{P:Program}{w:World}{K:W.Frag}{mg mb:Str->Option Value}{CX:k8}{k:Nat}{fa a:Addr}{fd:FuncData}{x:Str}{sp:Sp}{s₁:Shared}{vs:List Value}{ns:List Int}
  (KX:K.In s₁.heap) (hns:s₁.heap.Ns mainGlobals mg) (hb:s₁.heap.Ns builtinsNs mb) (hbb:∀x:Str,x≠"__name__"->mb x=bootBuiltins x) (hlim:s₁.heap.NoLimit) (hg:s₁.gens= #[])
  (ha:s₁.heap.get? a=some {cls:=.type "list",data:=.seq vs.toArray}) (hi:IntsAre vs ns) (hl:ns.length<=sizeLine) (hr:bE k callerA)
  (F:∀base:Heap,K.In base->base.Ns mainGlobals mg->ah P w K mg base CX k fa fd [x] sp) (hbind:∀(s:Shared)(u:Value),BindsTo s fd ⟨[u],[]⟩ [(x,u)])
  (hsp:∀H:Hp,yo H->aj K H a (ns.map V.int)->sp [.ref a] H (fun v _=>v=.bl true) fun _ _ _=>False)
  (hCX:∀H e s',CX [] H s₁ (fun _ _ _=>False) e s' ->False) :
  codeAny (model P w) callerA (.call (.ref fa) ⟨[.ref a],[]⟩) (fun r s' =>r=.ok (.ret (.bool true))/\OldK s₁.heap s'.heap/\s'.os=s₁.os/\AllBare s'.gens) s₁:=by
 have rv:=nr hi;have AQ:=hi.length
 have core:∀H:Hp,yo H->aj K H a (ns.map V.int)->cS P w H s₁.heap->(∀b,H b≠none->b=a)->(H a≠none->K.lookup a=none) ->
   codeAny (model P w) callerA (.call (.ref fa) ⟨[.ref a],[]⟩) (fun r s' =>r=.ok (.ret (.bool true))/\OldK s₁.heap s'.heap/\s'.os=s₁.os/\AllBare s'.gens) s₁:=by
  intro H hO hS hok hA hK;have base_of:∀{b:Addr}{o:Obj},s₁.heap.get? b=some o->H b=none->(jE s₁.heap H).get? b=some o:=fun e n=>rZ e n;have noA:∀{b:Addr}{o:Obj}{es:Array DictEntry}{ep:Nat},s₁.heap.get? b=some o->o.data=.dict es ep->H b=none:=fun{b o es ep} e d=>by
   cases q:H b with
   | none=>rfl
   | some u =>
    have e' :b=a:=hA b (by rw[q];simp);subst e';rw[ha]at e;cases e;have d' :Data.seq vs.toArray _=Data.dict es ep:=d;cases d'
  have nsK:∀{b:Addr}{m:Str->Option Value},s₁.heap.Ns b m->(jE s₁.heap H).Ns b m:=fun{b m} ⟨o,es,ep,e,d,r⟩=>⟨o,es,ep,base_of e (noA e d),d,r⟩
  have hKb:K.In (jE s₁.heap H):=fun b o e=>base_of (KX b o e) (by
   cases q:H b with
   | none=>rfl
   | some u =>
    have e' :b=a:=hA b (by rw[q];simp);subst e';rw[hK (by rw[q];simp)]at e;cases e)
  have hM:Mod K mg (jE s₁.heap H):=⟨hKb,nsK hns,⟨mb,nsK hb,hbb⟩,let⟨mc,h1,h2⟩:=hlim;⟨mc,nsK h1,h2⟩⟩;have e0:jT P w K mg (jE s₁.heap H) callerA [] s₁ H:=⟨rfl,hM,fun b o e=>uk e,Nat.le_of_eq (og _ _),trivial,fun b hb=>absurd (show b∈([]:List Addr)from hb) (by simp),hok,.of_eq hg⟩;refine Cs ((F _ hKb (nsK hns)).run callerA [] s₁ H ⟨[.ref a],[]⟩ [.ref a] [.ref a] _ _ hr e0 (hbind s₁ (.ref a)) (.cons rfl .nil) (hsp H hO hS)) fun r s' h=> ?_;cases r with
  | error e=>exact(hCX H e s' h).elim
  | ok fl =>
   cases fl with
   | next=>exact False.elim h
   | brk=>exact False.elim h
   | cont=>exact False.elim h
   | ret u =>
    obtain⟨v,H',os,bare,un,hok',r',q⟩:=h;have q' :v=.bl true:=q;subst q';obtain rfl:u=Value.bool true:=r';refine⟨rfl,OldK.of_keep fun b o e=> ?_,os,bare⟩;cases q:H b with
    | none=>exact un.keep b o e q (by intro z;exact absurd (show b∈([]:List Addr)from z) (by simp)) (by simp)
    | some u =>
     rcases hO b with z|⟨ob,xs,z⟩
     ·rw[q]at z;cases z
     ·have z2:=un.frzs b ob _ z
      obtain⟨e1,_⟩:=hok b _ z;obtain⟨e2,_⟩:=hok' b _ z2;rw[e]at e1;cases e1;exact e2
 cases hk:K.lookup a with
 | some o =>
  have e:=KX a o hk;rw[ha]at e;cases e;refine core (fun _=>none) (fun _=>.inl rfl) (.inr ⟨_,vs.toArray,_,hk,rfl,rfl,rfl,by rw[BH,AQ];exact hl,by simpa using rv⟩) (fun b u z=>by have z' :(none:Option HO)=some u:=z;cases z') (fun b z=>absurd rfl z) fun z=>absurd rfl z
 | none =>
  refine core (fun b=>if b=a then some (.frz {cls:=.type "list",data:=.seq vs.toArray} (.lst (ns.map V.int)))else none) (fun b=> ?_) (.inl (.inr ⟨{cls:=.type "list",data:=.seq vs.toArray},BK rfl⟩)) (fun b u z=> ?_) (fun b z=> ?_) fun _=>hk
  ·by_cases hb:b=a
   ·exact .inr ⟨_,_,BK hb⟩
   ·exact .inl (BI hb)
  ·by_cases hb:b=a
   ·have z' :=(BK hb).symm.trans z
    cases z';subst hb;exact⟨ha,by rw[BJ];exact hl,vs,_,rv,ha⟩
   ·have z' :=(BI hb).symm.trans z
    cases z'
  ·by_cases hb:b=a
   ·exact hb
   ·exact absurd (BI hb) z
theorem tW{l:W.OpenLaw}{n k:Nat}{q:Program}{loose:List Str}{XP:(Str->Option Value)->Heap->Prop}{YP:World->Heap->Prop}{d:DefRec}{K:Params->W.Frag}{CX:World->k8}{sp:World->Sp}{x:Str}
  (hn:l.most=some n) (hn2:n<=sizeLine) (hdf:d.params.defaults=[]) (hr:bE k callerA)
  (hY:∀(w:World)(h:Heap),YP w h->(K w.params).In h)
  (F:∀(w:World)(mg:Str->Option Value)(fa:Addr)(h:Heap),(K w.params).In h->h.Ns mainGlobals mg->mg d.name=some (.ref fa) ->
   ∃fd:FuncData,(∀(s:Shared)(u:Value),BindsTo s fd ⟨[u],[]⟩ [(x,u)]) /\
    ∀base:Heap,(K w.params).In base->base.Ns mainGlobals mg->ah l.prog w (K w.params) mg base (CX w) k fa fd [x] (sp w))
  (hsp:∀(w:World)(H:Hp)(a:Addr)(ns:List Int),ns.length<=n->yo H->aj (K w.params) H a (ns.map V.int)->sp w [.ref a] H (fun v _=>v=.bl true) fun _ _ _=>False)
  (hCX:∀(w:World)(H:Hp)(s:Shared)(e:Value)(s' :Shared),CX w [] H s (fun _ _ _=>False) e s' ->False) :
  W.WalkO q loose XP YP l.row.toRowW d [] (fun f vs=>PySem.call f vs):=by
 refine Att.ky hn hdf fun w s₀ s₁ mg mb fa o pm cd doc a vs ns G Y ho hd hcd hmg hobj hints hlen hg=> ?_;have KX:=hY w _ Y;obtain⟨fd,hb,hF⟩:=F w mg fa _ KX G.T.g hmg;exact rN KX G.T.g G.T.b G.T.builtins G.T.nolimit hg hobj hints (Ba hlen hn2) hr hF hb (fun H hO hS=>hsp w H a ns hlen hO hS) fun H e s' =>hCX w H s₁ e s'
noncomputable def bC(s:Stmt):Arguments:=match s with
 | .FunctionDef _ a _ _ _ _ _ _ _ _=>a
 | _=>{posonlyargs:=[],args:=[],vararg:=none,kwonlyargs:=[],kw_defaults:=[],kwarg:=none,defaults:=[]}
noncomputable def aZ(s:Stmt):List Stmt:=match s with
 | .FunctionDef _ _ b _ _ _ _ _ _ _=>b
 | _=>[]
noncomputable def aH(s:Stmt):Scope:=match s with
 | .FunctionDef _ _ _ _ _ _ sc _ _ _=>sc
 | _=>{kind:=.function,names:=[],isGenerator:=false,isCoroutine:=false}
noncomputable abbrev cY:k8:=fun _ _ _ _ _ _=>False
noncomputable abbrev E0:XK:=fun _ _ _=>False
theorem qq{X:Cx}:mO cY X E0:=fun _ _ _ _ _ _ _ h=>h.elim
structure zC(K:W.Frag)(x qual:Str)(st:Stmt)(f:Addr)(fd:FuncData):Prop where
 ex:∃(oc:Value)(od:Option Addr)(kV doc pm:Value)(an:Option Addr)(cdv ct:Value)(osl:Array (Option Value)),
  fd=W.fnOf x qual (bC st) (aZ st) (aH st) .none kV doc pm an cdv ct/\K.lookup f=some ⟨oc,od,.func fd,osl⟩/\W.codeIn K cdv qual=true
 kp:W.keepIn K (.ref f)=true
section
variable{P:Program}{w:World}{K:W.Frag}{mg:Str->Option Value}{base:Heap}
theorem zC.ok{x qual:Str}{st:Stmt}{f:Addr}{fd:FuncData}{N ps:List Str}{k:Nat}{sp:Sp}(F:zC K x qual st f fd)(S:ax N ps (aH st))(len:∀vs H Q E,sp vs H Q E->vs.length=ps.length)
  (hbody:∀(cdv:Value)(A:Around)(outer:List Env)(s:Shared)(H:Hp)(vs:List V)(Q:VK)(E:XK),bE k (A.deeper (envOfC qual (aH st) s.heap.objs.size f cdv))->sp vs H Q E ->
   ∃t,jW (cV cY P w K mg base N qual (aH st) f cdv A outer s H E).nox (aZ st) t/\t {nx:=fun _ H' =>Q .non H',rt:=Q} (start N vs) H):ah P w K mg base cY (k+1) f fd ps sp:=by
 obtain⟨oc,od,kV,doc,pm,an,cdv,ct,osl,rfl,lk,hcd⟩:=F.ex;refine ri lk hcd S len fun A outer s H vs Q E hr hsp=> ?_;obtain⟨t,h,q⟩:=hbody cdv A outer s H vs Q E hr hsp;exact⟨t,h.nox,q⟩
theorem zC.binds{x qual:Str}{st:Stmt}{f:Addr}{fd:FuncData}{ps:List Str}(F:zC K x qual st f fd)
  (h:∀(kV doc pm:Value)(an:Option Addr)(cdv ct:Value)(us:List Value),us.length=ps.length->bindArgs (W.fnOf x qual (bC st) (aZ st) (aH st) .none kV doc pm an cdv ct) ⟨us,[]⟩=pure (ps.zip us)):Binds K fd ps []:=by
 obtain⟨oc,od,kV,doc,pm,an,cdv,ct,osl,rfl,lk,hcd⟩:=F.ex;exact .all (h kV doc pm an cdv ct)
theorem rf{x qual:Str}{st:Stmt}{f:Addr}{oc:Value}{od an:Option Addr}{osl:Array (Option Value)}{kV doc pm cdv ct:Value}(l:K.lookup f=some ⟨oc,od,.func (W.fnOf x qual (bC st) (aZ st) (aH st) .none kV doc pm an cdv ct),osl⟩)
  (c:W.codeIn K cdv qual=true) (k:W.keepIn K (.ref f)=true):zC K x qual st f (W.fnOf x qual (bC st) (aZ st) (aH st) .none kV doc pm an cdv ct):=⟨⟨oc,od,kV,doc,pm,an,cdv,ct,osl,rfl,l,c⟩,k⟩
end
section
variable{X:Cx}
theorem pv(i:Nat){x:Str}{pos:Pos}(hN:X.N[i]? =some x:=by rfl)(hv:Au X.env.scope x:=by first|exact Or.inl rfl|exact Or.inr (Or.inl rfl)|exact Or.inr (Or.inr rfl))(hd:(x==("__debug__":Str))=false:=by decide)
  (hcd:(x==("__classdict__":Str))=false:=by decide):PE X (.Name x pos) (zQ i):=lO hN hv hd hcd
end
theorem kO{A B:Prop}(h:B):if false=true then A else B:=by
 rw[BI BC];exact h
theorem kN{A B:Prop}(h:A):if true=true then A else B:=by
 rw[BK rfl];exact h
noncomputable def aA(H H' :Hp):Prop:=∀b o,H b=some o->H' b=some o
theorem aA.refl(H:Hp):aA H H:=fun _ _ h=>h
theorem aA.trans{H H1 H2:Hp}(a:aA H H1)(b:aA H1 H2):aA H H2:=fun c o h=>b c o (a c o h)
theorem aA.free{H H' :Hp}(e:aA H H'){l:Addr}(h:H' l=Option.none):H l=Option.none:=by
 cases q:H l with
 | none=>rfl
 | some o =>
  rw[e l o q]at h;cases h
theorem aA.seq{K:W.Frag}{H H' :Hp}{a:Addr}{xs:List V}(e:aA H H')(h:aj K H a xs):aj K H' a xs:=by
 rcases h with(h|⟨o,h⟩)|h
 ·exact .inl (.inl (e _ _ h))
 ·exact .inl (.inr ⟨o,e _ _ h⟩)
 ·exact .inr h
end L2
set_option maxHeartbeats 4000000
namespace UM
open PySem PySem.Builtin PySem.Builtin.Str
theorem kI{c:Nat}:∀{a a' b b' :List Nat},c∉a->c∉a' ->a++c::b=a' ++c::b' ->a=a' /\b=b'
 | [],[],b,b',_,_,h=>⟨rfl,by simpa using h⟩
 | [],y::a',b,b',_,h2,h=>by
  simp only[List.nil_append,List.cons_append,List.cons.injEq]at h;exact absurd (h.1▸BN) h2
 | x::a,[],b,b',h1,_,h=>by
  simp only[List.nil_append,List.cons_append,List.cons.injEq]at h;exact absurd (h.1▸BN) h1
 | x::a,y::a',b,b',h1,h2,h=>by
  simp only[List.cons_append,List.cons.injEq]at h;obtain⟨e1,e2⟩:=h;obtain⟨i1,i2⟩:=kI (fun z=>h1 (BF _ z)) (fun z=>h2 (BF _ z)) e2;exact⟨by rw[e1,i1],i2⟩
theorem gO(c:Nat)(x y:Str)(r:List Str):(Str.join ⟨#[c]⟩ (x::y::r)).cps.toList=x.cps.toList++c::(Str.join ⟨#[c]⟩ (y::r)).cps.toList:=by
 show(x++⟨#[c]⟩++Str.join ⟨#[c]⟩ (y::r)).cps.toList=_;rw[PySem.Str.cps_append,PySem.Str.cps_append];simp
theorem cx{x y:Str}(h:x.cps.toList=y.cps.toList):x=y:=PySem.Str.ext' (Array.toList_inj.mp h)
theorem kM(c:Nat):∀(A B:List Str),A≠[]->B≠[]->(∀p∈A,c∉p.cps.toList)->(∀p∈B,c∉p.cps.toList)->Str.join ⟨#[c]⟩ A=Str.join ⟨#[c]⟩ B->A=B
 | [],_,h,_,_,_,_=>absurd rfl h
 | _::_,[],_,h,_,_,_=>absurd rfl h
 | [x],[y],_,_,_,_,e=>by
  have e' :x=y:=e;rw[e']
 | [x],y::z::r,_,_,h1,_,e=>by
  have e' :x.cps.toList=y.cps.toList++c::(Str.join ⟨#[c]⟩ (z::r)).cps.toList:=by
   rw[<- gO,<-e];rfl
  exact absurd (by rw[e'];simp) (h1 x (by simp))
 | x::z::r,[y],_,_,_,h2,e=>by
  have e' :y.cps.toList=x.cps.toList++c::(Str.join ⟨#[c]⟩ (z::r)).cps.toList:=by
   rw[<- gO,e];rfl
  exact absurd (by rw[e'];simp) (h2 y (by simp))
 | x::x' ::r,y::y' ::t,_,_,h1,h2,e=>by
  have e' :=B4 (fun s:Str=>s.cps.toList) e;simp only[gO]at e';obtain⟨i1,i2⟩:=kI (h1 x (by simp)) (h2 y (by simp)) e';have i3:=kM c (x' ::r) (y' ::t) (by simp) (by simp) (fun p hp=>h1 p (BF _ hp)) (fun p hp=>h2 p (BF _ hp)) (cx i2);rw[cx i1,i3]
theorem pf(x y:Str):Txt.split x y≠[]:=by
 unfold Txt.split
 split
 ·simp
 ·split
  ·simp
  ·rw[StrLaws.partsBetween_eq]
   obtain⟨p,r,e⟩:=StrLaws.partsFrom_ne x y.length 0 (occurrences x y 0 x.length (x.length+1));rw[e];simp
theorem fz{c:Nat}{rows:List Str}(h0:rows≠[])(h:∀p∈rows,c∉p.cps.toList):Txt.split (Str.join ⟨#[c]⟩ rows) ⟨#[c]⟩=rows :=
 kM c _ _ (pf _ _) h0 (StrLaws.split_free _ c) h (StrLaws.join_split _ _)
theorem j9(z y:Str):(partsBetween z (occurrences z y 0 z.length (z.length+1)) y.length).length<=z.length+2:=by
 have h:=StrLaws.occ_length_le z y 0 z.length (z.length+1);unfold partsBetween;rw[BJ,List.length_zip];simp only[BS,BJ,BL,CT];omega
theorem split_le(z y:Str):(Txt.split z y).length<=z.length+2:=by
 unfold Txt.split
 split
 ·simp
 ·split
  ·simp
  ·exact j9 z y
structure aU(m:Nat)(rows:List Str):Prop where
 some:rows≠[]
 few:rows.length<=m
 wide:∃k,1<=k/\k<=m/\∀r∈rows,r.length=k
 signs:∀r∈rows,∀c∈r.cps.toList,c=120\/c=46
theorem aU.free{m:Nat}{rows:List Str}(b:aU m rows):∀p∈rows,10∉p.cps.toList:=fun p hp hc=>by
 rcases b.signs p hp 10 hc with h|h<;>cases h
end UM
namespace L2
open PySem PySem.Spec PyProof.Rows
noncomputable def eB(env:Env):List (Str×NameKind)->List (Str×Addr)->List (Str×Addr)
 | [],acc=>acc
 | (n,k)::r,acc=>if(k==NameKind.free)=true then eB env r ((n,(env.cells.lookup n).getD 0)::acc)else eB env r acc
theorem eR{env:Env}{n:Str}{k:NameKind}{r:List (Str×NameKind)}{acc:List (Str×Addr)}(h:(k==NameKind.free)=true) :
  eB env ((n,k)::r) acc=eB env r ((n,(env.cells.lookup n).getD 0)::acc):=by
 show(if(k==NameKind.free)=true then _ else _)=_;rw[BK h]
theorem dc{env:Env}{n:Str}{k:NameKind}{r:List (Str×NameKind)}{acc:List (Str×Addr)}(h:¬(k==NameKind.free)=true) :
  eB env ((n,k)::r) acc=eB env r acc:=by
 show(if(k==NameKind.free)=true then _ else _)=_;rw[BI h]
theorem kq{env:Env}{n:Str}{c:Addr}(h:env.cells.lookup n=some c):cellOf env n=pure c:=by
 unfold cellOf;rw[h]
theorem mD{scope:Scope}{env:Env}(h:∀x∈scope.names,x.2=.free->∃c,env.cells.lookup x.1=some c):closureFor scope env=pure (eB env scope.names []):=by
 unfold closureFor
 suffices q:∀(l:List (Str×NameKind))(acc:List (Str×Addr)),(∀x∈l,x.2=.free->∃c,env.cells.lookup x.1=some c) ->
   (forIn l acc (fun(x:Str×NameKind) (r:List (Str×Addr))=>if(x.2==NameKind.free)=true then(do let a<-cellOf env x.1;pure (ForInStep.yield ((x.1,a)::r)))else pure (ForInStep.yield r)):Sem (List (Str×Addr)))=pure (eB env l acc)by
  exact(B4 (fun m=>m >>= pure) (q scope.names [] h)).trans (by rfl)
 intro l
 induction l with
 | nil=>intro acc _;rfl
 | cons x l ih =>
  intro acc hl;obtain⟨n,k⟩:=x;rw[List.forIn_cons]
  by_cases hk:(k==NameKind.free)=true
  ·obtain⟨c,hc⟩:=hl (n,k) BN (by simpa using hk)
   rw[eR hk];simp only[hk,CK];rw[kq hc];have e:(env.cells.lookup n).getD 0=c:=by rw[show env.cells.lookup n=some c from hc];rfl
   rw[e];exact ih _ fun y hy=>hl y (BF _ hy)
  ·rw[dc hk]
   simp only[hk,C8];exact ih _ fun y hy=>hl y (BF _ hy)
theorem cN{env:Env}:∀{l:List (Str×NameKind)}{acc:List (Str×Addr)}{x:Str}{c:Addr},(∀y∈l,y.2=.free->∃c,env.cells.lookup y.1=some c) ->
  (eB env l acc).lookup x=some c->acc.lookup x=some c\/env.cells.lookup x=some c
 | [],acc,x,c,_,h=>.inl h
 | (n,k)::l,acc,x,c,hl,h=>by
  have hl' :∀y∈l,y.2=.free->∃c,env.cells.lookup y.1=some c:=fun y hy=>hl y (BF _ hy)
  by_cases hk:(k==NameKind.free)=true
  ·rw[eR hk]at h
   rcases cN hl' h with q|q
   ·rw[Bb]at q
    cases hx:(x==n)with
    | true =>
     rw[hx]at q;have hxn:x=n:=by simpa using hx
     subst hxn;obtain⟨c',hc'⟩:=hl (x,k) BN (by simpa using hk);have hc2:env.cells.lookup x=some c' :=hc';rw[hc2]at q
     right
     rw[hc2]
     simpa using q
    | false =>
     rw[hx]at q;exact .inl q
   ·exact .inr q
  ·rw[dc hk]at h
   exact cN hl' h
theorem eA{env:Env}:∀{l:List (Str×NameKind)}{acc:List (Str×Addr)}{x:Str},((x,NameKind.free)∈l\/∃c,acc.lookup x=some c)->∃c,(eB env l acc).lookup x=some c
 | [],acc,x,h=>by
  rcases h with h|h
  ·cases h
  ·exact h
 | (n,k)::l,acc,x,h=>by
  by_cases hk:(k==NameKind.free)=true
  ·rw[eR hk]
   refine eA ?_
   rcases h with h|⟨c,h⟩
   ·rcases BP.mp h with e|e
    ·right
     injection e with e1 e2
     subst e1;exact⟨(env.cells.lookup x).getD 0,by rw[Bb];simp⟩
    ·exact .inl e
   ·right
    rw[Bb];cases hx:(x==n)with
    | true=>exact⟨_,rfl⟩
    | false=>exact⟨c,h⟩
  ·rw[dc hk]
   refine eA ?_
   rcases h with h|h
   ·rcases BP.mp h with e|e
    ·injection e with e1 e2
     subst e2;exact absurd rfl hk
    ·exact .inl e
   ·exact .inr h
section
variable{prog:Program}{w:World}{A:Around}{R:Result->Shared->Prop}{s:Shared}
theorem jL{elt target iter:Expr}{ifs:List Expr}{scope:Scope}{pos:Pos}{it acc:Value}{env:Env}(I:Nat->Shared->Prop)
  (turn:∀n s,I n s->wpAny (model prog w) A (pyNext it) (fun r s₁=>match r with
   | none=>R (.ok .next) s₁
   | some v=>wpAny (model prog w) A (letOwnedTupleGo target it v) (fun _ s₁' =>wpAny (model prog w) A (assign target env v) (fun _ s₂ =>
     wpAny (model prog w) A (forIn ifs true fun c r=>if r=true then do let ok<-isTrue c env (eval c env);pure (ForInStep.yield ok)else pure (ForInStep.yield r)) (fun ok s₃ =>
      if ok=true then wpAny (model prog w) A (eval elt env) (fun x s₄ =>
       wpAny (model prog w) A (call (.builtin "list.append") [acc,x]) (fun _ s₅=>∃m,m<n/\I m s₅) (notedBy (model prog w) A env fun e s' =>R (.error e) s') s₄) (notedBy (model prog w) A env fun e s' =>R (.error e) s') s₃
      else∃m,m<n/\I m s₃) (notedBy (model prog w) A env fun e s' =>R (.error e) s') s₂) (notedBy (model prog w) A env fun e s' =>R (.error e) s') s₁')
       (notedBy (model prog w) A env fun e s' =>R (.error e) s') s₁) (notedBy (model prog w) A env fun e s' =>R (.error e) s') s)
  (n:Nat) (h:I n s) :
  codeAny (model prog w) A (.compLoop (.ListComp elt [⟨target,iter,ifs,0⟩] scope pos) 0 it acc env) R s:=by
 refine codeAny_loop rfl I (fun n s hI=> ?_) n h;show wpAny _ A ((compTurn (.ListComp elt [⟨target,iter,ifs,0⟩] scope pos) 0 it acc env).onRaise (fun x=>do noteFrame x env;theTreesLotGoes x)) _ _ s;refine wpAny_noted ?_;rw[compTurn_list];refine A8 (wpAny_standAt (A8 (B5 (turn n s hI) (fun r s₁ h₁=> ?_) fun _ _ h' =>h')));cases r with
 | none=>exact BG h₁
 | some v =>
  refine A8 (B5 h₁ (fun _ s₁' h₁' => ?_) fun _ _ h' =>h');refine A8 (B5 h₁' (fun _ s₂ h₂=>A8 (B5 h₂ (fun ok s₃ h₃=> ?_) fun _ _ h' =>h')) fun _ _ h' =>h');cases ok with
  | false=>exact BG ⟨rfl,h₃⟩
  | true =>
   exact A8 (A8 (B5 h₃ (fun x s₄ h₄=>A8 (B5 h₄ (fun _ s₅ h₅=>BG (BG ⟨rfl,h₅⟩)) fun _ _ h' =>h')) fun _ _ h' =>h'))
end
noncomputable abbrev am(X:Cx)(N' :List Str)(scope:Scope)(C:Addr)(s2:Shared)(H2:Hp)(fp:List Addr)(cl:List (Str×Addr)):Cx where
 prog:=X.prog
 w:=X.w
 K:=X.K
 mg:=X.mg
 base:=X.base
 A:=X.A
 N:=N'
 s₀:=s2
 H₀:=H2
 env:=compEnvC scope cl C X.env
 outer:=X.stack
 stack:=X.stack
 ex:=fp
 fn:=fun x=>scope.names.lookup x==some .cell
 calm:=X.calm
 pn:=[]
 xe:=fun _ _=>False
noncomputable def bD(X:Cx)(scope:Scope):List Str->List (Option Nat)->Prop
 | [],[]=>True
 | _::ns,none::r=>bD X scope ns r
 | x::ns,some i::r=>(X.N[i]? =some x/\scope.names.lookup x=some .free/\(X.env.scope.names.lookup x=some .cell\/X.env.scope.names.lookup x=some .free))/\bD X scope ns r
 | _,_=>False
noncomputable def bM(src:List (Option Nat))(σ:St):St:=src.map fun o=>match o with
 | none=>none
 | some i=>(σ[i]?).join
theorem bD.len{X:Cx}{scope:Scope}:∀{N' :List Str}{src:List (Option Nat)},bD X scope N' src->src.length=N'.length
 | [],[],_=>rfl
 | _::_,none::_,h=>B4 (·+1) (bD.len (show bD X scope _ _ from h))
 | _::_,some _::_,h=>B4 (·+1) (bD.len h.2)
 | [],_::_,h=>by cases h
 | _::_,[],h=>by cases h
theorem bD.at{X:Cx}{scope:Scope}{σ:St}:∀{N' :List Str}{src:List (Option Nat)}{j:Nat}{x:Str}{v:V},bD X scope N' src->N'[j]? =some x->(bM src σ)[j]? =some (some v) ->
  ∃i:Nat,X.N[i]? =some x/\σ[i]? =some (some v)/\scope.names.lookup x=some .free/\(X.env.scope.names.lookup x=some .cell\/X.env.scope.names.lookup x=some .free)
 | [],[],j,x,v,_,h,_=>by simp at h
 | y::ns,none::r,0,x,v,_,_,h=>by simp[bM]at h
 | y::ns,none::r,j+1,x,v,s,h,h' =>bD.at (N' :=ns) (src:=r) (j:=j) s (by simpa using h) (by simpa [bM]using h')
 | y::ns,some i::r,0,x,v,s,h,h' =>by
  have e:y=x:=by simpa using h
  subst e;have q:(σ[i]?).join=some v:=by simpa [bM]using h'
  refine⟨i,s.1.1,?_,s.1.2.1,s.1.2.2⟩;cases z:σ[i]? with
  | none=>rw[z]at q;cases q
  | some o=>rw[z]at q;exact B4 some q
 | y::ns,some i::r,j+1,x,v,s,h,h' =>bD.at (N' :=ns) (src:=r) (j:=j) s.2 (by simpa using h) (by simpa [bM]using h')
 | [],_::_,_,_,_,s,_,_=>by cases s
 | _::_,[],_,_,_,s,_,_=>by cases s
noncomputable def tG(X:Cx)(ifs:List Expr)(t:TT):Prop :=
 ∀(pins:List (Addr×Obj))(s:Shared)(σ:St)(H:Hp)(Q:Bool->Hp->Prop),Inv X pins σ H s->t σ H Q ->
  wpAny (model X.prog X.w) X.A (forIn ifs true fun c r=>if r=true then do let ok<-isTrue c X.env (eval c X.env);pure (ForInStep.yield ok)else pure (ForInStep.yield r)) (TP X pins σ Q) X.xe s
noncomputable def zR:TT:=fun _ H Q=>Q true H
theorem qT{X:Cx}:tG X [] zR:=fun _ _ _ H _ I h=>wpAny_tests_nil ⟨H,I,h⟩
theorem qS{X:Cx}{c:Expr}{t:TT}(h:PT X c t):tG X [c] t:=fun pins s σ H Q I hw=>wpAny_tests_one (h pins s σ H Q I hw)
noncomputable def yq(X:Cx)(N' :List Str)(src:List (Option Nat))(scope:Scope)(target:Expr)(ifs:List Expr)(elt:Expr)(D:Addr)(σ:St)(x:V)(ys:List V)(H' :Hp)(N:List V->Hp->Prop):Prop :=
 ∀(C:Addr)(s2:Shared)(H2:Hp)(fp:List Addr)(cl:List (Str×Addr)),∃(g:TG)(tt:TT)(te:TE),PG (am X N' scope C s2 H2 fp cl) target g/\tG (am X N' scope C s2 H2 fp cl) ifs tt/\PE (am X N' scope C s2 H2 fp cl) elt te /\
  g x (bM src σ) H' fun σ2 H3=>(σ2.length=N'.length/\∀(j:Nat)(v:V),(bM src σ)[j]? =some (some v)->σ2[j]? =some (some v)) /\
   tt σ2 H3 fun b H4=>if b=true then te σ2 H4 fun v H5=>H5 D=some (.lst ys)/\ys.length<sizeLine/\N (ys++[v]) (upd H5 D (.lst (ys++[v])))else N ys H4
noncomputable def yw(X:Cx)(N' :List Str)(src:List (Option Nat))(scope:Scope)(target:Expr)(ifs:List Expr)(elt:Expr)(wi:TI):TE:=fun σ H Q=>wi σ H fun J H1=>∀D,H1 D=none ->
 ∃W:Nat->Nat->List V->Hp->Prop,(∃m,W 0 m [] (upd H1 D (.lst [])))/\∀i m ys H,W i m ys H ->
  (J.stop i H/\Q (.ref D) H)\/(J.go i H/\∀x H',J.yld i H x H' ->yq X N' src scope target ifs elt D σ x ys H' fun ys' H'' =>∃m',m' <m/\W (i+1) m' ys' H'')
section
variable{X:Cx}{pins:List (Addr×Obj)}{σ:St}{H:Hp}{s:Shared}
structure o5(X:Cx)(scope:Scope)(C:Addr)(cl:List (Str×Addr)):Prop where
 ex:∃own,cl=own++eB X.env scope.names []/\(∀n c,(n,c)∈own->C<c/\scope.names.lookup n=some .cell)/\(∀x,(x,NameKind.cell)∈scope.names->∃c,own.lookup x=some c)/\own.Pairwise fun x y=>x.2≠y.2
theorem o5.sub{scope:Scope}{C:Addr}{cl:List (Str×Addr)}(k:o5 X scope C cl)(hfree:∀y∈scope.names,y.2=.free->∃c,X.env.cells.lookup y.1=some c){x:Str}{c:Addr}(e:cl.lookup x=some c) :
  (C<c/\scope.names.lookup x=some .cell)\/(scope.names.lookup x≠some .cell\/True)/\X.env.cells.lookup x=some c:=by
 obtain⟨own,rfl,h1,h2,h3⟩:=k.ex;rw[CC]at e;cases z:own.lookup x with
 | some c' =>
  rw[z]at e;cases e;exact .inl (h1 x c (BY z))
 | none =>
  rw[z]at e
  rcases cN hfree e with q|q
  ·cases q
  ·exact .inr ⟨.inr trivial,q⟩
theorem vR{N' :List Str}{scope:Scope}{C:Addr}{fp:List Addr}{cl:List (Str×Addr)}(I:Inv X pins σ H s)(hkind:scope.kind=.function)(k:o5 X scope C cl)
  (hfree:∀y∈scope.names,y.2=.free->∃c,X.env.cells.lookup y.1=some c) (hC:s.heap.objs.size<=C) (hf:∀b∈fp,ee X pins H b) (hlt:∀b∈fp,b<s.heap.objs.size):(am X N' scope C s H fp cl).Ok:=by
 have old:∀x c,X.env.cells.lookup x=some c->c<s.heap.objs.size:=fun x c e=>let⟨_,q⟩:=I.cell x c e;q.lt
 obtain⟨own,hcl,h1,h2,h3⟩:=k.ex;have look:∀x c,cl.lookup x=some c->(x,c)∈own\/X.env.cells.lookup x=some c:=fun x c e=>by
  rw[hcl,CC]at e;cases z:own.lookup x with
  | some c' =>rw[z]at e;cases e;exact .inl (BY z)
  | none =>
   rw[z]at e
   rcases cN hfree e with q|q
   ·cases q
   ·exact .inr q
 refine⟨I.ok.mod,hkind,I.ok.glob,I.ok.blt,hC,fun x y c e1 e2=> ?_,fun x hx=> ?_,fun x c h e=> ?_,I.ok.hd,I.ok.frames,.inl rfl,fun b hb=>⟨?_,fun x c e=> ?_⟩,
  I.bs,Ba I.ok.bsz I.sz,fun b o e hb=> ?_,fun b hb hs=> ?_,I.stack,I.stkFree⟩
 ·rcases look x c e1 with q1|q1<;>rcases look y c e2 with q2|q2
  ·exact PySem.name_of_addr h3 q1 q2
  ·exact absurd (CS (old y c q2) (Nat.lt_of_le_of_lt hC (h1 x c q1).1)) (CA _)
  ·exact absurd (CS (old x c q1) (Nat.lt_of_le_of_lt hC (h1 y c q2).1)) (CA _)
  ·exact I.ok.inj x y c q1 q2
 ·-- a name of the block's that is no local of it is one that it closes over,or has a cell of its own
  have hx' :(relabel scope X.env).names.lookup x=some .cell\/(relabel scope X.env).names.lookup x=some .free:=hx;have go:∀k,(k=NameKind.cell\/k=NameKind.free)->(relabel scope X.env).names.lookup x=some k->(x,NameKind.free)∈scope.names\/(x,NameKind.cell)∈scope.names:=fun k hk e=>by
   have m:=BY e;obtain⟨⟨n,k'⟩,hm,e'⟩:=CI.mp m
   by_cases hfr:k' =NameKind.free
   ·subst hfr
    have e'' :(if(NameKind.free==NameKind.free&&X.env.scope.kind== .function&&X.env.kindOf n==some .cell)=true then(n,NameKind.cell)else(n,NameKind.free))=(x,k):=e';have hn:n=x:=by split at e'' <;>exact(Prod.mk.inj e'').1
    rw[<- hn];exact .inl hm
   ·have e'' :(if(k' ==NameKind.free&&X.env.scope.kind== .function&&X.env.kindOf n==some .cell)=true then(n,NameKind.cell)else(n,k'))=(x,k):=e'
    have hkf:(k' ==NameKind.free)=false:=by simpa using hfr
    rw[hkf,DE,DE,BI BC]at e'';obtain⟨g1,g2⟩:=Prod.mk.inj e'';subst g1 g2
    rcases hk with rfl|rfl
    ·exact .inr hm
    ·exact .inl hm
  have fin:(x,NameKind.free)∈scope.names\/(x,NameKind.cell)∈scope.names->∃c,cl.lookup x=some c:=by
   intro z;rw[hcl]
   rcases z with z|z
   ·obtain⟨c,hc⟩:=eA (env:=X.env) (l:=scope.names) (acc:=[]) (x:=x) (.inl z)
    rw[CC];cases own.lookup x with
    | some c' =>exact⟨c',rfl⟩
    | none=>exact⟨c,hc⟩
   ·obtain⟨c,hc⟩:=h2 x z
    exact⟨c,by rw[CC,hc];rfl⟩
  rcases hx' with e|e
  ·exact fin (go _ (.inl rfl) e)
  ·exact fin (go _ (.inr rfl) e)
 ·have h:scope.names.lookup x=some .cell:=by simpa using h
  obtain⟨c',hc'⟩:=h2 x (BY h);have e:cl.lookup x=some c:=e;rw[hcl,CC,hc']at e;cases e;exact Ba hC (CZ (h1 x c (BY hc')).1)
 ·exact fun e=>absurd (hlt b hb) (by show¬b<_;rw[e];exact Nat.not_lt.mpr hC)
 ·rcases look x c e with q|q
  ·exact fun z=>absurd (CS (hlt b hb) (Nat.lt_of_le_of_lt hC (h1 x c q).1)) (by rw[z];exact CA _)
  ·exact(hf b hb).2.2.2.2.1 x c q
 ·rcases(hf b hb).2.2.2.1 with q|q
  ·exact I.ok.noex b o e q
  ·exact absurd (BE e) (Nat.not_lt.mpr (Ba I.ok.bsz q))
 ·rcases BP.mp (I.stkSub b hs)with q|q
  ·exact(hf b hb).2.1 q
  ·exact(hf b hb).2.2.1 q
theorem bH:∀(names:List (Str×NameKind))(n:Nat)(a b:List (Str×Addr)),cellsFrom n names (a++b)=cellsFrom n names a++b
 | [],_,_,_=>rfl
 | (x,k)::r,n,a,b=>by
  unfold cellsFrom
  split
  ·exact bH r (n+1) ((x,n)::a) b
  ·exact bH r n a b
theorem b7:∀(names:List (Str×NameKind))(n:Nat)(acc:List (Str×Addr))(x:Str)(c:Addr),(x,c)∈cellsFrom n names acc->(x,c)∈acc\/(x,NameKind.cell)∈names
 | [],_,_,_,_,h=>.inl h
 | (y,k)::r,n,acc,x,c,h=>by
  unfold cellsFrom at h
  split at h
  ·rename_i hk
   have hk:k=.cell:=by simpa using hk
   rcases b7 r (n+1) ((y,n)::acc) x c h with q|q
   ·rcases BP.mp q with e|e
    ·cases e
     rw[hk];exact .inr BN
    ·exact .inl e
   ·exact .inr (BF _ q)
  ·rcases b7 r n acc x c h with q|q
   ·exact .inl q
   ·exact .inr (BF _ q)
theorem vV{scope:Scope}{C:Addr}(hcn:∀y∈scope.names,y.2=.cell->scope.names.lookup y.1=some .cell)(h:Heap)(hC:h.objs.size=C+1):o5 X scope C (cellsFrom (C+1) scope.names (eB X.env scope.names [])):=by
 have ok:=cellsFrom_ok scope.names h (C+1) [] ⟨fun _ _ hm=>(nomatch hm),List.Pairwise.nil⟩ (by rw[hC];exact BD _);rw[hC]at ok;refine⟨cellsFrom (C+1) scope.names [],by rw[<- bH];rfl,fun n c hm=>⟨(ok.empty n c hm).2,?_⟩,fun x hx=> ?_,ok.apart⟩
 ·rcases b7 _ _ _ _ _ hm with q|q
  ·cases q
  ·exact hcn _ q rfl
 ·have:=W.cellsFrom_some (x:=x) scope.names (C+1) [] (.inl (hcn _ hx rfl))
  exact CJ.mp this
theorem sL{M:Model}{A:Around}{E:Value->Shared->Prop}{s:Shared}{scope:Scope}{globals:Addr}{cl:List (Str×Addr)}{qual:Str}{env:Env}{Q:Env->Shared->Prop}
  (h:Q {scope:=scope,locals:=s.heap.objs.size,globals:=globals,cells:=cellsFrom (s.heap.objs.size+1) scope.names cl,qual:=qual,func:=none,code:=env.code,frame:=env.frame,builtins:=env.builtins} {s with heap:=pushCells (s.heap.push {cls:=.type "dict",data:=.dict #[]}) scope.names}) :
  wpAny M A (newFunctionEnv scope globals cl [] qual none .none (some env)) Q E s:=by
 simp only[newFunctionEnv,Option.isSome_some,CK];refine A8 (wpAny_alloc ?_);refine A8 (wpAny_layCells _ (fun name kind cells=>by cases hkc:kind==NameKind.cell<;>simp[hkc]) _ _ _ _ ?_);rw[show({s with heap:=s.heap.push {cls:=.type "dict",data:=.dict #[]}}:Shared).heap.objs.size=s.heap.objs.size+1 from Heap.size_push ..];rw[List.forIn_nil];exact A8 (BG (BG h))
end
theorem dj{env:Env}:∀{names:List (Str×NameKind)}{x:Str},names.lookup x=some .free ->
  (names.map fun(n,k)=>if(k==NameKind.free&&env.scope.kind== .function&&env.kindOf n==some .cell)then(n,NameKind.cell)else(n,k)).lookup x=some .cell \/
  (names.map fun(n,k)=>if(k==NameKind.free&&env.scope.kind== .function&&env.kindOf n==some .cell)then(n,NameKind.cell)else(n,k)).lookup x=some .free
 | [],_,h=>by simp at h
 | (n,k)::r,x,h=>by
  have ih:= @dj env r x;show List.lookup x ((if(k==NameKind.free&&env.scope.kind== .function&&env.kindOf n==some .cell)=true then(n,NameKind.cell)else(n,k))::_)=_\/List.lookup x ((if(k==NameKind.free&&env.scope.kind== .function&&env.kindOf n==some .cell)=true then(n,NameKind.cell)else(n,k))::_)=_;cases hx:x==n with
  | true =>
   simp only[Bb,hx]at h;cases h
   by_cases hc:(NameKind.free==NameKind.free&&env.scope.kind== .function&&env.kindOf n==some .cell)=true
   ·left;rw[BK hc];simp only[Bb,hx]
   ·right;rw[BI hc];simp only[Bb,hx]
  | false =>
   simp only[Bb,hx]at h
   by_cases hc:(k==NameKind.free&&env.scope.kind== .function&&env.kindOf n==some .cell)=true
   ·rw[BK hc];simp only[Bb,hx];exact ih h
   ·rw[BI hc];simp only[Bb,hx];exact ih h
section
variable{X:Cx}{pins:List (Addr×Obj)}{σ:St}{H:Hp}{s:Shared}
theorem lx{N' :List Str}{src:List (Option Nat)}{scope:Scope}{D C:Addr}{fp:List Addr}{cl:List (Str×Addr)}{h₁:Heap}{m:Str->Option Value}{tk:Nat}(I:Inv X pins σ H s)(hkind:scope.kind=.function)(k:o5 X scope C cl)
  (hfree:∀y∈scope.names,y.2=.free->∃c,X.env.cells.lookup y.1=some c) (hsrc:bD X scope N' src) (hf:∀b∈fp,ee X pins H b) (hlt:∀b∈fp,b<s.heap.objs.size)
  (hD:D=s.heap.objs.size) (hC:s.heap.objs.size<C) (hns:h₁.Ns C m) (old:∀b o,s.heap.get? b=some o->h₁.get? b=some o) (hacc:h₁.get? D=some {cls:=.type "list",data:=.seq #[]})
  (hce:∀x c,cl.lookup x=some c->C<c->∃v,h₁.IsCell c v) :
  Inv (am X N' scope C s H fp cl) [] (bM src σ) (upd H D (.lst [])) {s with heap:=h₁,toks:=tk}:=by
 have hn:H D=none:=by rw[hD];exact I.hok.fresh (BD _)
 have ok:=vR (N' :=N') I hkind k hfree (CZ hC) hf hlt;have hDC:D≠C:=by rw[hD];exact BX hC
 refine⟨ok,rfl,I.bare,Un.laid old (by rw[hD];exact BD _) hn,⟨m,hns,fun j x v h1 h2 h3=> ?_⟩,fun x c e=> ?_,?_,fun x c e=> ?_,fun p hp=>(by cases hp),I.hok.laid old (by rw[hD];exact BD _) ?_,?_⟩
 ·obtain⟨i,e1,e2,e3,e4⟩:=hsrc.at h1 h2
  obtain⟨m0,_,hl⟩:=I.loc;obtain⟨u,r,l⟩:=hl i x v e1 e2 (.inr e4);refine⟨u,r,?_⟩;obtain⟨own,hcl,o1,o2,o3⟩:=k.ex;have hown:own.lookup x=none:=by
   cases z:own.lookup x with
   | none=>rfl
   | some c =>
    have:=(o1 x c (BY z)).2;rw[e3]at this;cases this
  obtain⟨c',hc'⟩:=eA (env:=X.env) (l:=scope.names) (acc:=[]) (x:=x) (.inl (BY e3));have hcX:X.env.cells.lookup x=some c' :=by
   rcases cN hfree hc' with q|q
   ·cases q
   ·exact q
  have hcl' :cl.lookup x=some c' :=by rw[hcl,CC,hown];exact hc'
  rcases l with⟨hk,_⟩|⟨hk,c,hc,hcl2⟩
  ·have hk' :X.env.scope.names.lookup x=some .local:=hk
   rcases e4 with e4|e4
   ·rw[hk']at e4;cases e4
   ·rw[hk']at e4;cases e4
  ·have ec:c' =c:=Bc (hcX.symm.trans hc)
   subst ec
   right
   exact⟨dj e3,c',hcl',hcl2.keeps old⟩
 ·rcases k.sub hfree (show cl.lookup x=some c from e)with q|q
  ·exact hce x c e q.1
  ·obtain⟨v,z⟩:=I.cell x c q.2
   exact⟨v,z.keeps old⟩
 ·show upd H D (.lst []) C=none
  rw[aE (CQ hDC)];exact I.hok.fresh (CZ hC)
 ·show upd H D (.lst []) c=none
  rcases k.sub hfree (show cl.lookup x=some c from e)with q|q
  ·have:s.heap.objs.size<c:=CS hC q.1
   rw[aE (by rw[hD];exact C7 this)];exact I.hok.fresh (CZ this)
  ·obtain⟨v,z⟩:=I.cell x c q.2
   rw[aE (by rw[hD];exact BX z.lt)];exact I.freeC x c q.2
 ·exact⟨Be _,[],0,.nil,hacc⟩
 ·show(src.map _).length=N'.length
  rw[BJ];exact hsrc.len
theorem cS.but{P:Program}{w:World}{H:Hp}{h h' :Heap}(x:cS P w H h)(k:∀b u,H b≠none->h.get? b=some u->h'.get? b=some u):cS P w H h' :=fun a o e =>
 (x a o e).stay (fun b u hb q=>k b u (by rcases hb with rfl|hb;(rw[e];simp);(rw[hb];simp)) q) (fun _ q=>q) fun _ _ q=>q
noncomputable def eo(sc scope:Scope):Bool:=scope.names.all fun y=> !(y.2==NameKind.free)||(sc.names.lookup y.1==some .cell||sc.names.lookup y.1==some .free)
theorem rh{sc scope:Scope}(h:eo sc scope=true):∀y∈scope.names,y.2=.free->(sc.names.lookup y.1=some .cell\/sc.names.lookup y.1=some .free):=fun y hy hf=>by
 have z:=Bl.mp h y hy;rw[hf]at z
 simpa using z
theorem nJ{use:Option (Value->Sem Unit)}{P:Value->Shared->Prop}{Q:VK}{elt target iter:Expr}{ifs:List Expr}{scope:Scope}{pos:Pos}{N' :List Str}{src:List (Option Nat)}{wi:TI}(hc:X.calm=true)(hi:PI X target iter wi)(hsrc:bD X scope N' src)
  (hkind:scope.kind=.function) (hcell:∀y∈scope.names,y.2=.cell->scope.names.lookup y.1=some .cell) (hnames:∀y∈scope.names,y.2=.local->scope.names.lookup y.1=some .local)
  (hfr:eo X.env.scope scope=true)
  (hs:∀x,foldedSetIterable iter X.env x=pure x) (I:Inv X pins σ H s) (h:yw X N' src scope target ifs elt wi σ H Q)
  (fin:∀(C a:Addr)(s2 s4:Shared)(H2 H3:Hp)(fp:List Addr)(cl:List (Str×Addr))(m:Str->Option Value),Inv X pins σ H2 s2->(∀b∈fp,ee X pins H2 b)->(∀b,b<s2.heap.objs.size->b≠C)->s2.heap.objs.size<=C->Inv (am X N' scope C s2 H2 fp cl) [] (bM src σ) H3 s4->s4.heap.Ns C m->Q (.ref a) H3->∀v,compPost (model X.prog X.w) X.A X.xe use P (.ref a) C (.ok v) s4) :
  wpAny (model X.prog X.w) X.A (comprehension (.ListComp elt [⟨target,iter,ifs,0⟩] scope pos) scope X.env (firstIterPos [⟨target,iter,ifs,0⟩] pos) (newList []) (firstAsync [⟨target,iter,ifs,0⟩]) (firstIter [⟨target,iter,ifs,0⟩] X.env) use) P X.xe s:=by
 have hfree:∀y∈scope.names,y.2=.free->∃c,X.env.cells.lookup y.1=some c:=fun y hy hf=>I.ok.has y.1 (rh hfr y hy hf);refine wpAny_comprehension_free (use:=use) rfl hs (mD hfree) hkind hnames ?_;refine ae (hi pins s σ H _ I h) fun xv s1 h1=>ae h1 fun itv s2 h2=> ?_;obtain⟨it,fp,tn,J,H2,e,I2,T,st2,f2,q⟩:=h2;subst e;have hlt:∀b∈fp,b<s2.heap.objs.size:=fun b hb=>by
  obtain⟨o,e,_⟩:=T.obj _ _ st2 b hb;exact BE e
 refine Cb (sL ?_);dsimp only
 generalize hH2:s2.heap.push {cls:=.type "list",dict:=none,data:=.seq ([]:List Value).toArray}=G2
 have hC:G2.objs.size=s2.heap.objs.size+1:=by rw[<- hH2,Heap.size_push]
 have hCle:s2.heap.objs.size<=G2.objs.size:=by rw[hC];exact Cu _
 have hClt:s2.heap.objs.size<G2.objs.size:=by rw[hC];exact Nat.lt_succ_self _
 have below:∀b,b<s2.heap.objs.size->b≠G2.objs.size:=fun b hb=>by rw[hC];exact BX (Nat.lt_succ_of_lt hb)
 obtain⟨cl,hcl0⟩:∃cl,cl=cellsFrom (G2.objs.size+1) scope.names (eB X.env scope.names []):=⟨_,rfl⟩;obtain⟨h₁,hh₁⟩:∃h₁,h₁=pushCells (G2.push {cls:=.type "dict",data:=.dict #[]}) scope.names:=⟨_,rfl⟩;rw[<- hcl0,<-hh₁];have hfr2:(G2.push {cls:=.type "dict",data:=.dict #[]}).objs.size=G2.objs.size+1:=Heap.size_push ..;have kcl:o5 X scope G2.objs.size cl:=by rw[hcl0];exact vV hcell _ hfr2
 have hns₁:h₁.Ns G2.objs.size (fun _=>none):=by rw[hh₁];exact(Heap.Ns.new G2 (.type "dict")).keeps (pushCells_keeps _ _)
 have old:∀b o,s2.heap.get? b=some o->h₁.get? b=some o:=fun b o e=>by rw[hh₁];exact pushCells_keeps _ _ b o (BA _ (hH2▸BA _ e))
 have hacc:h₁.get? s2.heap.objs.size=some {cls:=.type "list",data:=.seq #[]}:=by rw[hh₁];exact pushCells_keeps _ _ _ _ (BA _ (hH2▸BR _ rfl))
 have hce:∀x c,cl.lookup x=some c->G2.objs.size<c->∃v,h₁.IsCell c v:=fun x c e hlt' =>by
  have okc:=cellsFrom_ok scope.names (G2.push {cls:=.type "dict",data:=.dict #[]}) (G2.objs.size+1) [] ⟨fun _ _ hm=>(nomatch hm),List.Pairwise.nil⟩ (by rw[hfr2];exact BD _);rw[hfr2]at okc;have e1:cl=cellsFrom (G2.objs.size+1) scope.names []++eB X.env scope.names []:=by rw[hcl0,<-bH];rfl
  rw[e1,CC]at e;cases z:(cellsFrom (G2.objs.size+1) scope.names []).lookup x with
  | some c' =>
   rw[z]at e;cases e;exact⟨none,by rw[hh₁];exact(okc.empty x c (BY z)).1⟩
  | none =>
   rw[z]at e
   rcases cN hfree e with q|q
   ·cases q
   ·obtain⟨v,zc⟩:=I2.cell x c q
    exact absurd (CS zc.lt hClt) (Nat.not_lt.mpr (CZ hlt'))
 have hDn:H2 s2.heap.objs.size=none:=I2.hok.fresh (BD _);obtain⟨W,⟨m0,w0⟩,turn⟩:=q s2.heap.objs.size hDn;have st1:tn 0 h₁:=T.keep _ _ _ st2 fun b hb o e=>old b o e;have hsub:∀b∈fp,b∉lC X.stack:=fun b hb hz=>by
  rcases BP.mp (I2.stkSub b hz)with z|z
  ·exact(f2 b hb).2.1 z
  ·exact(f2 b hb).2.2.1 z
 have hcl:∀x c,cl.lookup x=some c->G2.objs.size<c\/X.env.cells.lookup x=some c:=fun x c e=>by
  rcases kcl.sub hfree e with q|q
  ·exact .inl q.1
  ·exact .inr q.2
 have stat:∀{H' :Hp},(∀b∈fp,H' b=none)->∀b∈fp,ee (am X N' scope G2.objs.size s2 H2 fp cl) [] H' b:=fun hn b hb =>
  ⟨hn b hb,below b (hlt b hb),hsub b hb,.inl hb,fun x c e=>(by rcases hcl x c e with q|q;(exact fun z=>absurd (CS (hlt b hb) (CS hClt q)) (by rw[z];exact CA _));exact(f2 b hb).2.2.2.2.1 x c q),fun p hp=>by cases hp⟩
 have loop:∀s3:Shared,s3={s2 with heap:=h₁} ->
   codeAny (model X.prog X.w) X.A (.compLoop (.ListComp elt [⟨target,iter,ifs,0⟩] scope pos) 0 (.ref it) (.ref s2.heap.objs.size) (compEnvC scope cl G2.objs.size X.env))
    (compPost (model X.prog X.w) X.A X.xe use P (.ref s2.heap.objs.size) G2.objs.size) s3:=by
  rintro s3 rfl
  refine jL (fun n s' =>∃i ys H',Inv (am X N' scope G2.objs.size s2 H2 fp cl) [] (bM src σ) H' s' /\tn i s'.heap/\(∀b∈fp,H' b=none)/\W i n ys H') ?_ m0
   ⟨0,[],_,lx I2 hkind kcl hfree hsrc f2 hlt rfl hClt hns₁ old hacc hce,st1,fun b hb=>by rw[aE (BX (hlt b hb))];exact(f2 b hb).1,w0⟩
  rintro n s' ⟨i,ys,H3,I3,st3,fr3,w3⟩
  rcases turn i n ys H3 w3 with⟨stop,qn⟩|⟨go,step⟩
  ·refine ae (T.done (am X N' scope G2.objs.size s2 H2 fp cl) rfl rfl rfl hc i [] s' _ H3 _ I3 (stat fr3) st3 stop) fun r s4 hpq=> ?_
   obtain⟨hr,I4⟩:=hpq;subst hr;obtain⟨m,hn,_⟩:=I4.loc;exact fin _ _ s2 s4 H2 H3 fp cl m I2 f2 below hCle I4 hn qn _
  ·refine ae (T.item (am X N' scope G2.objs.size s2 H2 fp cl) rfl rfl rfl hc i [] s' _ H3 _ I3 (stat fr3) st3 go) fun r s4 hpq=> ?_
   obtain⟨u,hr,h4⟩:=hpq;subst hr;refine ae h4 fun _ s5 hpq=> ?_;obtain⟨x,H5,I5,r5,y5,st5,fr5⟩:=hpq;obtain⟨g,tt,te,hg,ht,he,rd⟩:=step x H5 y5 G2.objs.size s2 H2 fp cl;have I5' :=I5.pinned (stat fr5) (T.obj _ _ st5);have noE:∀{α:Type}{t:Sem α}{Q' :α->Shared->Prop}{s' :Shared}{E:Value->Shared->Prop},wpAny (model X.prog X.w) X.A t Q' (fun _ _=>False) s' ->wpAny (model X.prog X.w) X.A t Q' E s' :=fun z=>B5 z (fun _ _ y=>y) fun _ _ y=>y.elim
   have again:∀{σ7:St}{H7:Hp}{s7:Shared}{ys' :List V},Inv (am X N' scope G2.objs.size s2 H2 fp cl) ([]++gH fp s5.heap) σ7 H7 s7->(σ7.length=N'.length/\∀(j:Nat)(v:V),(bM src σ)[j]? =some (some v)->σ7[j]? =some (some v)) ->
     (∃m',m' <n/\W (i+1) m' ys' H7)->∃m,m<n/\∃i ys H',Inv (am X N' scope G2.objs.size s2 H2 fp cl) [] (bM src σ) H' s7/\tn i s7.heap/\(∀b∈fp,H' b=none)/\W i m ys H' :=fun{σ7 H7 s7 ys'} I7 hσ ⟨m',hm,w7⟩=>by
    refine⟨m',hm,i+1,ys',H7,(I7.unpinned).weak (by rw[show(bM src σ).length=N'.length by(show(src.map _).length=_;rw[BJ];exact hsrc.len)];exact hσ.1.symm) hσ.2,T.keep _ _ _ st5 fun b hb o e=>(I7.pin (b,o) (Bk _ (Bk _ (cQ hb e)))).1,fun b hb=> ?_,w7⟩;obtain⟨o,e,d⟩:=T.obj _ _ st5 b hb;exact(I7.pin (b,o) (Bk _ (Bk _ (cQ hb e)))).2.1
   refine noE (ae (hg _ s5 _ H5 x u _ I5' r5 rd) fun _ s6 hpq=> ?_);obtain⟨σ6,H6,I6,hσ,q6⟩:=hpq;refine noE (ae (ht _ s6 σ6 H6 _ I6 q6) fun b s7 hpq=> ?_);obtain⟨H7,I7,q7⟩:=hpq;cases b with
   | false=>exact again I7 hσ q7
   | true =>
    rw[BK rfl]at q7 ⊢;refine noE (ae (he _ s7 σ6 H7 _ I7 q7) fun y s8 hpq=> ?_);obtain⟨v,H8,I8,r8,hl8,hz8,q8⟩:=hpq;refine noE (ae (iH _ s8 σ6 H8 (.ref s2.heap.objs.size) [v] (.ref s2.heap.objs.size) [y] (fun _ H9=>∃m',m' <n/\W (i+1) m' (ys++[v]) H9) I8 rfl (.cons r8 .nil) ⟨_,_,_,rfl,rfl,hl8,hz8,q8⟩) fun _ s9 hpq=> ?_);obtain⟨_,H9,I9,_,q9⟩:=hpq;exact again I9 hσ q9
 exact codeAny_compStart_list (loop _ rfl) (T.self X.A 0 _ _ _ st1 (loop _ rfl))
theorem AC{elt target iter:Expr}{ifs:List Expr}{scope:Scope}{pos:Pos}{N' :List Str}{src:List (Option Nat)}{wi:TI}(hc:X.calm=true)(hi:PI X target iter wi)(hsrc:bD X scope N' src)
  (hkind:scope.kind=.function) (hcell:∀y∈scope.names,y.2=.cell->scope.names.lookup y.1=some .cell) (hnames:∀y∈scope.names,y.2=.local->scope.names.lookup y.1=some .local)
  (hfr:eo X.env.scope scope=true)
  (hs:∀x,foldedSetIterable iter X.env x=pure x:=by intro _;rfl) :
  PE X (.ListComp elt [⟨target,iter,ifs,0⟩] scope pos) (yw X N' src scope target ifs elt wi):=by
 intro pins s σ H Q I h;rw[eval_ListComp];refine nJ hc hi hsrc hkind hcell hnames hfr hs I h fun C a s2 s4 H2 H3 fp cl m I2 f2 below hCle I4 hn qn _=> ?_;refine⟨m,hn,fun h' hs' => ?_⟩;have ne:∀b o,s2.heap.get? b=some o->b≠C:=fun b o e=>below b (BE e);have hfree4:H3 C=none:=I4.free;have u4:Un (lC X.stack) fp H2 H3 s2.heap s4.heap:=I4.base
 have u5:Un (lC X.stack) fp H2 H3 s2.heap h' :=⟨fun b o e n z1 z2=>(hs'.2 b (ne b o e)).trans (u4.keep b o e n z1 z2),fun b o e n z1 z2=>let⟨sl,z⟩:=u4.slot b o e n z1 z2;⟨sl,(hs'.2 b (ne b o e)).trans z⟩,u4.free,
  fun b o e z=>let⟨o',z'⟩:=u4.there b o e z;⟨o',(hs'.2 b (ne b o e)).trans z'⟩,u4.tups,u4.frzs,u4.tbls⟩
 have hok:cS X.prog X.w H3 h' :=cS.but (h:=s4.heap) I4.hok fun b u hb z=>(hs'.2 b (fun w=>hb (by rw[w];exact hfree4))).trans z;exact⟨.ref a,H3,I2.call' (s' :={s4 with heap:=h'}) (ch:=fp) I4.os u5 hok I4.bare fun b hb=>⟨(f2 b hb).2.2.2.1,(f2 b hb).2.1,(f2 b hb).2.2.2.2.1,(f2 b hb).2.2.2.2.2⟩,rfl,qn⟩
end
section
variable{X:Cx}
theorem all_range(bs:List Bool):(List.range bs.length).all (fun i=>bs.getD i true)=bs.all id:=by
 rw[Cg,Bl,Bl]
 constructor
 ·intro h b hb
  obtain⟨i,hi,e⟩:=List.mem_iff_getElem.mp hb;have z:=h i (DC.mpr hi);rw[Bj,BU hi,e]at z;exact z
 ·intro h i hi
  have hi' :=DC.mp hi;rw[Bj,BU hi'];exact h _ (List.getElem_mem hi')
theorem lE{bs:List Bool}{us:List Value}(r:aI (bs.map V.bl) us){i:Nat}{v:Value}(e:us[i]? =some v):v=.bool (bs.getD i true):=by
 have hl:=r.length;rw[BJ]at hl;have hi:i<us.length:=(BM.mp e).1;have hb:(bs.map V.bl)[i]? =some (.bl (bs.getD i true)):=by
  rw[Bi,Bj,BU (by omega)];rfl
 obtain⟨u,e',ru⟩:=r.get hb;rw[e]at e';cases e';exact ru
theorem kr(hc:X.calm=true):ay X (.builtin "all") (fun xs H Q=>∃(p:Addr)(bs:List Bool),xs=[.ref p]/\aj X.K H p (bs.map V.bl)/\Q (.bl (bs.all id)) H):=by
 intro pins s σ H xs us Q I r h;obtain⟨p,bs,rfl,hq,q⟩:=h;obtain⟨u,rfl,rx⟩:=vals1 r;cases rx;obtain⟨its,r',pl,hz⟩:=I.list hq;have hlen:=r'.length;rw[BJ]at hlen;have hp:p<s.heap.objs.size:=by
  obtain⟨o,e,_⟩:=pl.isList;exact BE e
 refine call_all_walk (wpAny_pyIter_list pl.isList ?_);refine⟨s.heap.objs.size,_,_,its.toArray.size,_,_,(fun i=>bs.getD i true),rfl,Walks.list (A:=X.A.in1) (I.ok.hd hc) s.heap.objs.size p (BX hp) its.toArray,⟨⟨_,BR _ rfl,rfl,rfl⟩,pl.isList.push _⟩,?_,?_⟩
 ·intro i v s' Q' E' hv hQ
  have e:=lE r' (i:=i) (v:=v) (by simpa using hv);subst e;exact B3 hQ
 ·intro h' tk hk
  refine⟨.bl (bs.all id),H,I.kept (t' :=tk) (fun b o e=>hk b o (by simpa using BX (BE e)) (BA _ e)),?_,q⟩;rw[BH,<-hlen,all_range];rfl
theorem dQ:∀{ys:List Str}{us:List Value},aI (ys.map V.str) us->StrsAre us ys
 | [],_,r=>by
  rw[Ca]at r;cases r;exact .nil
 | y::ys,_,r=>by
  rw[BZ]at r;cases r with
  | cons r1 r2 =>
   obtain⟨t,e⟩:=r1;subst e;exact .cons y t (dQ r2)
theorem cZ:∀(l:List (Str×Tok)),aI ((l.map (·.1)).map V.str) (strValues l)
 | []=>.nil
 | p::l=>.cons ⟨p.2,rfl⟩ (cZ l)
noncomputable def zq(K:W.Frag):V->List V->Hp->VK->Prop:=fun x vs H Q=>∃sep p ys,x=.str sep/\vs=[.ref p]/\(aj K H p (ys.map V.str)\/bI K H p (ys.map V.str))/\(ys.map (·.length)).sum+ys.length*sep.length<=16777216/\Q (.str (Txt.join sep ys)) H
theorem uq:MtR X "str.join" (zq X.K):=by
 intro pins s σ H x xs v us Q I rx rs h;obtain⟨sep,p,ys,rfl,rfl,hq,hz,q⟩:=h;obtain⟨t,rfl⟩:=rx;obtain⟨u,rfl,ru⟩:=vals1 rs;cases ru
 rcases hq with hq|hq
 ·obtain⟨its,r,pl,_⟩:=I.list hq
  exact join_list pl.isList (dQ (by simpa using r)) hz fun t' k=>⟨.str (Txt.join sep ys),H,I.tok _,⟨_,rfl⟩,q⟩
 ·obtain⟨its,r,pl,_⟩:=I.tuple hq
  exact join_tuple pl (dQ (by simpa using r)) hz fun t' k=>⟨.str (Txt.join sep ys),H,I.tok _,⟨_,rfl⟩,q⟩
noncomputable def xC:V->List V->Hp->VK->Prop:=fun x vs H Q=>∃z y,x=.str z/\vs=[.str y]/\(y.length==0)=false/\z.length+2<=sizeLine/\∀p,H p=none->Q (.ref p) (upd H p (.lst ((Txt.split z y).map V.str)))
theorem rH:MtR X "str.split" xC:=by
 intro pins s σ H x xs v us Q I rx rs h;obtain⟨z,y,rfl,rfl,hy,hz,q⟩:=h;obtain⟨t,rfl⟩:=rx;obtain⟨u,rfl,t',rfl⟩:=vals1 rs;have fin:∀(l:List (Str×Tok))(tk:Nat),l.map (·.1)=Txt.split z y->EP X pins σ Q (.ref s.heap.objs.size) {s with heap:=s.heap.push {cls:=.type "list",data:=.seq (strValues l).toArray},toks:=tk}:=fun l tk e=>by
  refine⟨.ref s.heap.objs.size,_,I.laid (t' :=tk) (o:=.lst ((Txt.split z y).map V.str)) (fun b ob q=>BA _ q) (BD _) ?_,rfl,q _ (I.hok.fresh (BD _))⟩;refine⟨by rw[BJ];exact Ba (UM.split_le z y) hz,strValues l,0,?_,BR _ rfl⟩;rw[<- e];exact cZ l
 cases h1:(decide (z.length<y.length)||decide (Builtin.Str.strKind z<Builtin.Str.strKind y))with
 | true=>exact call_meets F.slot_str_split (typeIs_str _ _ _) F.entry_str_split (F.args_str_split_2 _ _) (meets_str_split_cannot_occur z y t t' h1) (fin [(z,t)] s.toks (by unfold Txt.split;rw[BK h1];rfl))
 | false =>
  have h1' :¬(decide (z.length<y.length)||decide (Builtin.Str.strKind z<Builtin.Str.strKind y))=true:=by rw[h1];exact BC
  cases hf:(Builtin.Str.occurrences z y 0 z.length (z.length+1)).isEmpty with
  | true=>exact call_meets F.slot_str_split (typeIs_str _ _ _) F.entry_str_split (F.args_str_split_2 _ _) (meets_str_split_not_found z y t t' h1 hy hf) (fin [(z,t)] s.toks (by unfold Txt.split;rw[BI h1',BK hf];rfl))
  | false =>
   have hf' :¬(Builtin.Str.occurrences z y 0 z.length (z.length+1)).isEmpty=true:=by rw[hf];exact BC
   refine call_meets F.slot_str_split (typeIs_str _ _ _) F.entry_str_split (F.args_str_split_2 _ _) (meets_str_split_sep z y t t' h1 hy hf (by omega) (Ba (UM.j9 z y) hz)) ?_
   have q1:=fin (numbered s.toks (Builtin.Str.partsBetween z (Builtin.Str.occurrences z y 0 z.length (z.length+1)) y.length)) (s.toks+(Builtin.Str.partsBetween z (Builtin.Str.occurrences z y 0 z.length (z.length+1)) y.length).length)
    (by rw[numbered_texts];unfold Txt.split;rw[BI h1',BI hf'])
   rw[<- strsFrom_eq]at q1;exact q1
noncomputable def A0(x:Str):It:=⟨fun i _=>i<x.cps.size,fun i H v H' =>H' =H/\∃c,x.cps[i]? =some c/\v=.str ⟨#[c]⟩,fun i _=>i=x.cps.size⟩
noncomputable def iStr(tl:TE):TI:=fun σ H R=>tl σ H fun x H1=>∃z,x=.str z/\R (A0 z) H1
theorem dP{P:Program}{w:World}{K:W.Frag}{tg:Expr}{it:Addr}{n:Nat}{Pw:Nat->Value->Prop}{tn:Nat->Heap->Prop}{J:It}(hW:∀A:Around,A.handled=none->Walks P w A it [it] [it] n Pw tn)
  (hob:∀i h,tn i h->∃(o:Obj)(ty:String)(vs:Array Value),h.get? it=some o/\o.cls=.type ty/\o.data=.fields vs/\["enumerate","zip","dict_itemiterator","dict_reverseitemiterator","odict_iterator","itertools.zip_longest","itertools.pairwise"].contains ty=false)
  (hgo:∀i H,J.go i H->i<n) (hst:∀i H,J.stop i H->i=n) (hy:∀i H v,Pw i v->∃x,RelV x v/\J.yld i H x H)
  (hself:∀(A:Around)(i:Nat)(s:Shared)(Q:Value->Shared->Prop)(E:Value->Shared->Prop),tn i s.heap->Q (.ref it) s->wpAny (model P w) A (pyIter (.ref it)) Q E s):oz P w K tg J [it] it tn where
 mem:=by simp
 obj:=fun i h st b hb=>by
  have e:b=it:=by simpa using hb
  subst e;obtain⟨o,ty,vs,e,_,d,_⟩:=hob i h st;exact⟨o,e,fun v z=>by rw[d]at z;cases z⟩
 keep:=fun i h h' st k=>(hW {callerA with handled:=none} rfl).frame i h h' st k
 item:=by
  intro X hP hw hK hc i pins s σ H E I hf st hg;subst hP hw hK;obtain⟨f0,f1,f2,f3,f4,f5⟩:=hf it (by simp);refine(hW X.A (I.ok.hd hc)).item i s _ _ (hgo i H hg) st fun v h' tk hv st' kk=> ?_;obtain⟨x,rx,y⟩:=hy i H v hv;have I1:Inv X pins σ H {s with heap:=h',toks:=tk}:=I.turned (fun b o hb e=>kk b o (by simpa using hb) e) f0 f1 f3 f4 f5;obtain⟨o,ty,vs,e,c,d,nc⟩:=hob (i+1) h' st';exact⟨_,rfl,nR (s:={s with heap:=h',toks:=tk}) e c d nc ⟨x,H,I1,rx,y,st',fun b hb=>(hf b hb).1⟩⟩
 done:=by
  intro X hP hw hK hc i pins s σ H E I hf st hg;subst hP hw hK;obtain⟨f0,f1,f2,f3,f4,f5⟩:=hf it (by simp);have e:=hst i H hg;subst e;exact(hW X.A (I.ok.hd hc)).done s _ _ st fun h' tk kk=>⟨rfl,I.turned (fun b o hb e=>kk b o (by simpa using hb) e) f0 f1 f3 f4 f5⟩
 self:=hself
theorem xL{tg:Expr}{l:Expr}{tl:TE}(hl:PE X l tl):PI X tg l (iStr tl):=by
 intro pins s σ H R I h;refine ae (hl pins s σ H _ I h) fun v s1 hpq=> ?_;obtain⟨x,H1,I1,r1,q1⟩:=hpq;obtain⟨z,rfl,q⟩:=q1;obtain⟨t,rfl⟩:=r1;have fp:∀b∈[s1.heap.objs.size],ee X pins H1 b:=fun b hb=>by
  have e:b=s1.heap.objs.size:=by simpa using hb
  subst e;exact I1.fpOk (BD _) (I1.hok.fresh (BD _))
 have yl:∀(i:Nat)(H:Hp)(v:Value),SignAt z i v->∃x,RelV x v/\(A0 z).yld i H x H:=fun i H v hv=>by
  obtain⟨c,u,e,rfl⟩:=hv;exact⟨.str ⟨#[c]⟩,⟨_,rfl⟩,rfl,c,e,rfl⟩
 cases ha:z.cps.all (·<128)with
 | false =>
  refine wpAny_pyIter_wide ha ?_
  refine⟨s1.heap.objs.size,[s1.heap.objs.size],fun i h=>h.IsStrIter s1.heap.objs.size "str_iterator" z t i,A0 z,H1,rfl,I1.kept (t' :=s1.toks) fun b o e=>BA _ e,
   dP (fun A hA=>Walks.strWide hA _ z t) (fun i h st=> ?_) (fun i H g=>g) (fun i H g=>g) yl (fun A i s Q E st h=>wpAny_pyIter_striter_wide st h),⟨_,BR _ rfl,rfl,rfl⟩,fp,q⟩
  obtain⟨o,e,c,d⟩:=st;exact⟨o,_,_,e,c,d,by decide⟩
 | true =>
  refine wpAny_pyIter_ascii ha ?_
  refine⟨s1.heap.objs.size,[s1.heap.objs.size],fun i h=>h.IsStrIter s1.heap.objs.size "str_ascii_iterator" z t i,A0 z,H1,rfl,I1.kept (t' :=s1.toks) fun b o e=>BA _ e,
   dP (fun A hA=>Walks.strAscii hA _ z t) (fun i h st=> ?_) (fun i H g=>g) (fun i H g=>g) yl (fun A i s Q E st h=>wpAny_pyIter_striter_ascii st h),⟨_,BR _ rfl,rfl,rfl⟩,fp,q⟩
  obtain⟨o,e,c,d⟩:=st;exact⟨o,_,_,e,c,d,by decide⟩
noncomputable def Itc(lo c:Int)(n:Nat):It:=⟨fun i _=>i<n,fun i H x H' =>H' =H/\x=.int (lo+i*c),fun i _=>i=n⟩
noncomputable def AV(ta:TA):TI:=fun σ H R=>ta σ H fun vs H1=>∃i j c:Int,vs=[.int i,.int j,.int c]/\c≠0/\c.natAbs<1073741824/\Builtin.Range.small i j c=true/\R (Itc i c (Builtin.Range.rangeSize i j c).toNat) H1
theorem ic(i j c:Int):0<=Builtin.Range.rangeSize i j c:=by
 unfold Builtin.Range.rangeSize
 split
 ·split
  ·have:=Int.ediv_nonneg (a:=j-i-1) (b:=c) (by omega) (by omega)
   omega
  ·exact Int.le_refl _
 ·split
  ·by_cases hc:c=0
   ·subst hc
    simp
   ·have:=Int.ediv_nonneg (a:=i-j-1) (b:= -c) (by omega) (by omega)
    omega
  ·exact Int.le_refl _
theorem oG{tg:Expr}{a b c:Expr}{ta:TA}{p pos:Pos}(hg:Gl X "range")(hm:X.mg "range"=none)(ha:PA X [a,b,c] ta)(hs:starEach [a,b,c] X.env=(false,eval a X.env)::starEach [b,c] X.env:=by rfl)
  (hs2:(backTo pos (starEach [b,c] X.env)).any (·.1)=false:=by rfl):PI X tg (.Call (.Name "range" p) [a,b,c] [] pos) (AV ta):=by
 intro pins s σ H R I h;refine Call_ (dX I hg hm boot_range (B9 (ae (ha pos pins s σ H _ I h) fun us s1 ⟨vs,H1,I1,r1,q1⟩=> ?_) hs hs2));obtain⟨i,j,k,e,hk,hk2,hsm,q⟩:=q1;subst e;cases r1 with
 | cons r rr =>
  cases rr with
  | cons r' rr =>
   cases rr with
   | cons r'' rr =>
    cases rr;obtain⟨t,rfl⟩:=r;obtain⟨t',rfl⟩:=r';obtain⟨t'',rfl⟩:=r'';refine call_range_3 hk ?_ (.inl (PyProof.noPylong_small hk2));refine wpAny_pyIter_range (IsRange.new ..) hsm ?_;have I2:Inv X pins σ H1 {s1 with heap:=s1.heap.push {cls:=.type "range",data:=.fields #[.int i t,.int j t',.int k t'']}}:=I1.kept (t' :=s1.toks) fun b o e=>BA _ e
    refine⟨_,[_],_,_,H1,rfl,I2.kept (t' :=s1.toks) fun b o e=>BA _ e,
     dP (fun A hA=>Walks.range hA _ i k (Builtin.Range.rangeSize i j k).toNat) (fun m h st=>⟨_,_,_,st,rfl,rfl,by decide⟩) (fun m H g=>g) (fun m H g=>g) (fun m H v hv=> ?_) (fun A m s Q E st h=>wpAny_pyIter_rangeiter st h),?_,fun b hb=> ?_,q⟩
    ·obtain⟨u,rfl⟩:=hv
     exact⟨.int (i+m*k),⟨_,rfl⟩,rfl,rfl⟩
    ·have e1:i+((0:Nat):Int)*k=i:=by simp
     have e2:(((Builtin.Range.rangeSize i j k).toNat:Nat):Int)-((0:Nat):Int)=Builtin.Range.rangeSize i j k:=by
      have:=ic i j k;omega
     show IsRangeIter _ _ (i+((0:Nat):Int)*k) ((((Builtin.Range.rangeSize i j k).toNat:Nat):Int)-((0:Nat):Int)) k;rw[e1,e2];exact BR _ rfl
    ·have e:b=(s1.heap.push {cls:=.type "range",data:=.fields #[.int i t,.int j t',.int k t'']}).objs.size:=by simpa using hb
     subst e;exact I2.fpOk (BD _) (I2.hok.fresh (BD _))
theorem Inv.drew{pins:List (Addr×Obj)}{σ:St}{H:Hp}{s:Shared}{h' :Heap}{fp:List Addr}{p:Addr}{o:HO}{t' :Nat}(I:Inv X pins σ H s)(hf:∀b∈fp,ee X pins H b)(k:∀b ob,b∉fp->s.heap.get? b=some ob->h'.get? b=some ob)
  (hp:s.heap.objs.size<=p) (new:aY X.prog X.w (upd H p o) h' p o):Inv X pins σ (upd H p o) {s with heap:=h',toks:=t'}:=by
 have ne:∀b u,H b=some u->b≠p:=fun b u e=>BX (BV (I.hok.lt e) hp);have nf:∀b u,H b=some u->b∉fp:=fun b u e hb=>by rw[(hf b hb).1]at e;cases e
 refine I.step (g' :=s.gens) (d' :=s.drawn) (ch:=fp) (fun b hb=>⟨(hf b hb).2.2.2.1,(hf b hb).2.1,(hf b hb).2.2.2.2.1,(hf b hb).2.2.2.2.2⟩) (fun b ob _ _ hc e _=>k b ob hc e) (fun b ob _ _ hc e _=>⟨ob.slots,k b ob hc e⟩)
  (fun b ob hc e n=>by rw[aE (BX (BV (BE e) hp))];exact n) (fun b ob hc e=>⟨ob,k b ob hc e⟩) (fun b xs e=>by rw[aE (ne b _ e)];exact e) (fun b ob u e=>by rw[aE (ne b _ e)];exact e)
  (fun b ps e=>⟨#[],by rw[aE (ne b _ e),e];simp⟩) (fun m hm=> ?_) (fun b u e=> ?_) I.bare
 ·obtain⟨ob,es,ep,ho,r⟩:=hm
  exact⟨ob,es,ep,k _ _ (fun hb=>(hf _ hb).2.1 rfl) ho,r⟩
 ·by_cases hb:b=p
  ·subst hb
   rw[aD]at e;cases e;exact new
  ·rw[aE hb]at e
   refine(I.hok b u e).stay (fun c v hc q=>k c v ?_ q) (fun c q=>by rw[aE (ne c _ q)];exact q) (fun c xs q=>by rw[aE (ne c _ q)];exact q)
   rcases hc with rfl|hc
   ·exact nf _ _ e
   ·exact nf _ _ hc
theorem Inv.drew0{pins:List (Addr×Obj)}{σ:St}{H:Hp}{s:Shared}{h' :Heap}{fp:List Addr}{t' :Nat}(I:Inv X pins σ H s)(hf:∀b∈fp,ee X pins H b)(k:∀b ob,b∉fp->s.heap.get? b=some ob->h'.get? b=some ob) :
  Inv X pins σ H {s with heap:=h',toks:=t'}:=by
 have nf:∀b u,H b=some u->b∉fp:=fun b u e hb=>by rw[(hf b hb).1]at e;cases e
 refine I.step (g' :=s.gens) (d' :=s.drawn) (ch:=fp) (fun b hb=>⟨(hf b hb).2.2.2.1,(hf b hb).2.1,(hf b hb).2.2.2.2.1,(hf b hb).2.2.2.2.2⟩) (fun b ob _ _ hc e _=>k b ob hc e) (fun b ob _ _ hc e _=>⟨ob.slots,k b ob hc e⟩)
  (fun b ob hc e n=>n) (fun b ob hc e=>⟨ob,k b ob hc e⟩) (fun b xs e=>e) (fun b ob u e=>e) (fun b ps e=>⟨#[],by rw[e];simp⟩) (fun m hm=> ?_) (fun b u e=> ?_) I.bare
 ·obtain⟨ob,es,ep,ho,r⟩:=hm
  exact⟨ob,es,ep,k _ _ (fun hb=>(hf _ hb).2.1 rfl) ho,r⟩
 ·refine(I.hok b u e).stay (fun c v hc q=>k c v ?_ q) (fun c q=>q) (fun c xs q=>q)
  rcases hc with rfl|hc
  ·exact nf _ _ e
  ·exact nf _ _ hc
noncomputable def Az(K:W.Frag)(a b:Addr):It :=
  ⟨fun i H=>∃xs ys x y,aj K H a xs/\aj K H b ys/\xs[i]? =some x/\ys[i]? =some y,
   fun i H v H' =>∃p,H p=none/\v=.ref p/\∀xs ys x y,aj K H a xs->aj K H b ys->xs[i]? =some x->ys[i]? =some y->H' =upd H p (.tup [x,y]),
   fun i H=>∃xs ys,aj K H a xs/\aj K H b ys/\(xs.length<=i\/ys.length<=i)⟩
noncomputable def Ar(z TI TO i1 i2 a b:Addr)(i:Nat)(h:Heap):Prop:=IsZip h z TI TO .none/\IsPair h TI (.ref i1) (.ref i2)/\(∃u v,IsPair h TO u v)/\h.IsListIter i1 a i/\h.IsListIter i2 b i
theorem pW{P:Program}{w:World}{K:W.Frag}{es:List Expr}{kt:Nat}{tpos:Pos}{z TI TO i1 i2 a b:Addr}(D:ZipApart z TI TO i1 i2 a b) :
  oz P w K (.Tuple es kt tpos) (Az K a b) [z,TI,TO,i1,i2] z (Ar z TI TO i1 i2 a b) where
 mem:=by simp
 obj:=fun i h st c hc=>by
  obtain⟨hz,hTI,⟨u,v,hTO⟩,⟨o1,e1,_,d1⟩,⟨o2,e2,_,d2⟩⟩:=st;simp only[BP,CM,or_false]at hc
  rcases hc with rfl|rfl|rfl|rfl|rfl
  ·exact⟨_,hz,fun v z=>by cases z⟩
  ·exact⟨_,hTI,fun v z=>by cases z⟩
  ·exact⟨_,hTO,fun v z=>by cases z⟩
  ·exact⟨_,e1,fun v z=>by rw[d1]at z;cases z⟩
  ·exact⟨_,e2,fun v z=>by rw[d2]at z;cases z⟩
 keep:=fun i h h' st k=>by
  obtain⟨hz,hTI,⟨u,v,hTO⟩,h1,h2⟩:=st;exact⟨k z (by simp) _ hz,k TI (by simp) _ hTI,⟨u,v,k TO (by simp) _ hTO⟩,h1.at fun o e=>k i1 (by simp) o e,h2.at fun o e=>k i2 (by simp) o e⟩
 item:=by
  intro X hP hw hK hc i pins s σ H E I hf st hg;subst hP hw hK;obtain⟨xs,ys,x,y,sa,sb,ex,ey⟩:=hg;obtain⟨its,ra,pa,_⟩:=I.list sa;obtain⟨its',rb,pb,_⟩:=I.list sb;obtain⟨u,eu,ru⟩:=ra.get ex;obtain⟨v,ev,rv⟩:=rb.get ey;obtain⟨hz,hTI,⟨u0,v0,hTO⟩,h1,h2⟩:=st;refine wpAny_pyNext_zip_item D hz hTI hTO h1 h2 pa.isList pb.isList (x:=u) (y:=v) (by simpa using eu) (by simpa using ev) fun h' a1 a2 a3 a4 a5 a6 hk=> ?_;refine⟨_,rfl,wpAny_letOwnedTupleGo_zip a1 fun h'' hz' hs' => ?_⟩;have zlt:z<s.heap.objs.size:=BE hz;have kk:∀c o,c∉[z,TI,TO,i1,i2]->s.heap.get? c=some o->h''.get? c=some o:=fun c o hc e=>by
   simp only[BP,CM,or_false,not_or]at hc;obtain⟨c1,c2,c3,c4,c5⟩:=hc;exact(hs'.2 c c1).trans (hk c o c1 c3 c4 c5 e)
  have tI:h''.get? TI=some _:=(hs'.2 TI D.TIz).trans (hk TI _ D.TIz D.TITO D.TIi1 D.TIi2 hTI);have new:h''.get? s.heap.objs.size=some {cls:=.type "tuple",data:=.seq #[u,v]}:=(hs'.2 _ (C7 zlt)).trans a5;have I1:Inv X pins σ (upd H s.heap.objs.size (.tup [x,y])) {s with heap:=h''}:=I.drew (t' :=s.toks) hf kk (BD _) ⟨by show 2<=sizeLine;decide,[u,v],.cons ru (.cons rv .nil),⟨_,new,rfl,_,rfl,rfl⟩⟩;refine⟨.ref s.heap.objs.size,upd H s.heap.objs.size (.tup [x,y]),I1,rfl,⟨s.heap.objs.size,I.hok.fresh (BD _),rfl,fun xs' ys' x' y' sa' sb' ex' ey' => ?_⟩,⟨hz',tI,⟨_,_,(hs'.2 TO D.TOz).trans a2⟩,a3.at fun o e=>(hs'.2 i1 D.i1z).trans e,a4.at fun o e=>(hs'.2 i2 D.i2z).trans e⟩,fun c hc=> ?_⟩
  ·have q1:=I.list_inj sa sa'
   have q2:=I.list_inj sb sb';subst q1 q2;rw[ex]at ex';rw[ey]at ey';cases ex';cases ey';rfl
  ·rw[aE ?_]
   ·exact(hf c hc).1
   ·intro e
    have lt:c<s.heap.objs.size:=by
     simp only[BP,CM,or_false]at hc;obtain⟨o1,e1,_⟩:=id h1;obtain⟨o2,e2,_⟩:=id h2
     rcases hc with rfl|rfl|rfl|rfl|rfl
     ·exact zlt
     ·exact BE hTI
     ·exact BE hTO
     ·exact BE e1
     ·exact BE e2
    exact absurd e (BX lt)
 done:=by
  intro X hP hw hK hc i pins s σ H E I hf st hg;subst hP hw hK;obtain⟨xs,ys,sa,sb,hend⟩:=hg;obtain⟨its,ra,pa,_⟩:=I.list sa;obtain⟨its',rb,pb,_⟩:=I.list sb;obtain⟨hz,hTI,⟨u0,v0,hTO⟩,h1,h2⟩:=st;have l1:=ra.length;have l2:=rb.length;refine wpAny_pyNext_zip_end (I.ok.hd hc) D hz hTI hTO h1 h2 pa.isList pb.isList ?_ fun h' hk=>⟨rfl,I.drew0 (t' :=s.toks) hf fun c o hc e=> ?_⟩
  ·rcases hend with q|q
   ·exact .inl (by simp;omega)
   ·exact .inr (by simp;omega)
  ·simp only[BP,CM,or_false,not_or]at hc
   exact hk c o hc.1 hc.2.2.1 hc.2.2.2.1 hc.2.2.2.2 e
 self:=fun _ _ _ _ _ st h=>wpAny_pyIter_zip st.1 h
noncomputable def iZip(K:W.Frag)(ta:TA):TI:=fun σ H R=>ta σ H fun vs H1=>∃a b xs ys,vs=[.ref a,.ref b]/\aj K H1 a xs/\aj K H1 b ys/\R (Az K a b) H1
theorem qW{es:List Expr}{kt:Nat}{tpos:Pos}{a b:Expr}{ta:TA}{p pos:Pos}(hg:Gl X "zip")(hm:X.mg "zip"=none)(ha:PA X [a,b] ta)(hs:starEach [a,b] X.env=(false,eval a X.env)::starEach [b] X.env:=by rfl)
  (hs2:(backTo pos (starEach [b] X.env)).any (·.1)=false:=by rfl):PI X (.Tuple es kt tpos) (.Call (.Name "zip" p) [a,b] [] pos) (iZip X.K ta):=by
 intro pins s σ H R I h;refine Call_ (dX I hg hm boot_zip (B9 (ae (ha pos pins s σ H _ I h) fun us s1 ⟨vs,H1,I1,r1,q1⟩=> ?_) hs hs2));obtain⟨l1,l2,xs,ys,e,sa,sb,q⟩:=q1;subst e;obtain⟨u,v,rfl,ru,rv⟩:=vals2 r1;cases ru;cases rv;obtain⟨its,ra,pa,_⟩:=I1.list sa;obtain⟨its',rb,pb,_⟩:=I1.list sb;have lt1:l1<s1.heap.objs.size:=by obtain⟨o,e,_⟩:=pa.isList;exact BE e
 have lt2:l2<s1.heap.objs.size:=by obtain⟨o,e,_⟩:=pb.isList;exact BE e
 refine call_zip_2 pa.isList pb.isList fun h' hz hTI hTO hit1 hit2 hsz hk=> ?_;refine wpAny_pyIter_zip hz ?_;have I2:Inv X pins σ H1 {s1 with heap:=h'}:=I1.kept (t' :=s1.toks) hk;refine⟨s1.heap.objs.size+4,[s1.heap.objs.size+4,s1.heap.objs.size+2,s1.heap.objs.size+3,s1.heap.objs.size,s1.heap.objs.size+1],_,_,H1,rfl,I2,pW (zipApart_new lt1 lt2),⟨hz,hTI,⟨_,_,hTO⟩,hit1,hit2⟩,fun c hc=> ?_,q⟩;have le:s1.heap.objs.size<=c:=by
  simp only[BP,CM,or_false]at hc
  rcases hc with rfl|rfl|rfl|rfl|rfl<;>omega
 exact I1.fpOk le (I1.hok.fresh le)
theorem vI{K:PySem.W.Frag}{a b:Addr}{xs ys:List V}{g:TG}{tb:TS}{D:cX}{σ:St}{H:Hp}(hl:xs.length=ys.length)(Pv:Nat->St->Hp->Prop)(h0:Pv 0 σ H)(ha:∀i σ H,i<=xs.length->Pv i σ H->aj K H a xs)(hb:∀i σ H,i<=xs.length->Pv i σ H->aj K H b ys)
  (hs:∀i x y p σ H,xs[i]? =some x->ys[i]? =some y->H p=none->Pv i σ H->g (.ref p) σ (upd H p (.tup [x,y])) fun σ2 H2=>tb {D with nx:=Pv (i+1),ct:=Pv (i+1),bk:=D.nx} σ2 H2) (hd:∀σ H,Pv xs.length σ H->D.nx σ H) :
  ∃W:Nat->Nat->St->Hp->Prop,(∃m,W 0 m σ H)/\∀i m σ H,W i m σ H ->
   ((Az K a b).stop i H/\D.nx σ H)\/((Az K a b).go i H/\∃N:St->Hp->Prop,(∀σ' H',N σ' H' ->∃m',m' <m/\W (i+1) m' σ' H')/\∀x H',(Az K a b).yld i H x H' ->g x σ H' fun σ2 H2=>tb {D with nx:=N,ct:=N,bk:=D.nx} σ2 H2):=by
 refine⟨fun i m σ H=>m=xs.length-i/\i<=xs.length/\Pv i σ H,⟨xs.length,by simp,Be _,h0⟩,?_⟩;rintro i m σ H ⟨rfl,hi,p⟩;have qa:=ha i σ H hi p;have qb:=hb i σ H hi p
 by_cases hlt:i<xs.length
 ·have ex:xs[i]? =some xs[i]:=by simp[hlt]
  have ey:ys[i]? =some (ys[i]'(by omega)):=by simp[show i<ys.length by omega]
  refine .inr ⟨⟨xs,ys,_,_,qa,qb,ex,ey⟩,Pv (i+1),fun σ' H' p' =>⟨xs.length-(i+1),by omega,rfl,hlt,p'⟩,fun x H' y=> ?_⟩;obtain⟨pp,hn,rfl,y⟩:=y;have e:=y xs ys _ _ qa qb ex ey;subst e;exact hs i _ _ pp σ H ex ey hn p
 ·have e:i=xs.length:=by omega
  subst e;exact .inl ⟨⟨xs,ys,qa,qb,.inl (BD _)⟩,hd σ H p⟩
theorem qx:cO X (binaryOp .FloorDiv) (rI (fun _ j=>0<j/\j.natAbs.log2<9000) fun i j=>.int (i/j)):=AL fun i j _ _ _ _ _ hc q=>by
 have h1:(0:Int)<j:=hc.1;exact floordiv_int (by omega) (by rw[Int.fdiv_eq_ediv_of_nonneg i (by omega)];exact q) (.inl (PyProof.noPylong_of_log2 hc.2))
end
theorem aA.tup{K:W.Frag}{H H' :Hp}{a:Addr}{xs:List V}(e:aA H H')(h:bI K H a xs):bI K H' a xs:=by
 rcases h with(h|⟨o,h⟩)|h
 ·exact .inl (.inl (e _ _ h))
 ·exact .inl (.inr ⟨o,e _ _ h⟩)
 ·exact .inr h
theorem aP{H:Hp}{p:Addr}(h:H p=none)(o:HO):aA H (upd H p o):=fun b u q=>by rw[aE (aJ q h)];exact q
theorem aA.upd{H H' :Hp}{D:Addr}{o:HO}(e:aA H H')(h:H D=none):aA H (upd H' D o):=fun b u q=>by rw[aE (aJ q h)];exact e b u q
noncomputable def wG(n:Nat):List V:=(List.range n).map fun i=>V.int (i:Nat)
section
variable{X:Cx}{N' :List Str}{scope:Scope}{elt:Expr}{σ:St}{H1:Hp}{J:It}{xs:List V}
theorem sm{r:List (Option Nat)}{σ:St}{x:V}(h:r.length+1=N'.length) :
  ((bM (none::r) σ).set 0 (some x)).length=N'.length/\∀(j:Nat)(v:V),(bM (none::r) σ)[j]? =some (some v)->((bM (none::r) σ).set 0 (some x))[j]? =some (some v):=by
 refine⟨by rw[Cy];simp[bM,h],fun j v e=> ?_⟩;cases j with
 | zero=>simp[bM]at e
 | succ j=>simpa [bM]using e
end
structure tU(K:W.Frag)(mg:Str->Option Value)(x:Str)(st:Stmt)(ps:List Str)(f:Addr)(fd:FuncData):Prop where
 fn:zC K x x st f fd
 nm:mg x=some (.ref f)
 bd:Binds K fd ps []
theorem wB{X:Cx}{x:Str}{n:String}{pos:Pos}(hg:Gl X x)(hm:X.mg x=none)(hv:bootBuiltins x=some (.type n))(hn:x≠"__name__":=by decide)(hd:(x==("__debug__":Str))=false:=by decide):PE X (.Name x pos) (tC (.ty n)) :=
 ub (v:=.ty n) hg hm hv rfl hn hd
section
variable{K:W.Frag}
theorem cj(n:String):W.kitOne K (.type n) (.type n)=some true:=by
 unfold W.kitOne;rw[BK (by simp)]
end
noncomputable def cG(n:Int):Bool:=decide (1<=n)&&decide (n<=8)
noncomputable def AQ:V->Nat
 | .str z=>z.length
 | _=>0
noncomputable def mW(K:W.Frag):Sp:=fun vs H Q _=>∃(a:Addr)(ns:List Int),vs=[.ref a]/\aj K H a (ns.map V.int)/\ns.length<=63/\∀H',Q (.bl true) H'
section
variable{X:Cx}{e st:Expr}{te ts:TE}{pos p2:Pos}
end
section
variable{κ:Type}[DecidableEq κ]
noncomputable def fE(kvs:List (κ×V))(k:κ):Option V:=(kvs.find? fun kv=>decide (kv.1=k)).map (·.2)
noncomputable def dR(kvs:List (κ×V))(k:κ)(v:V):List (κ×V) :=
 if(kvs.any fun kv=>decide (kv.1=k))=true then kvs.map (fun kv=>if kv.1=k then(kv.1,v)else kv)else kvs++[(k,v)]
theorem fk{p:κ×V}{r:List (κ×V)}{k:κ}(e:p.1=k):fE (p::r) k=some p.2:=by simp[fE,Ce,e]
theorem fm{p:κ×V}{r:List (κ×V)}{k:κ}(e:¬p.1=k):fE (p::r) k=fE r k:=by simp[fE,Ce,e]
theorem jn(k:κ):∀kvs:List (κ×V),(kvs.any fun kv=>decide (kv.1=k))=(fE kvs k).isSome
 | []=>rfl
 | p::r=>by
  rw[Cq]
  by_cases e:p.1=k
  ·simp only[fk e,CB e,Bool.true_or,Option.isSome_some]
  ·rw[fm e,Bh e,Bool.false_or];exact jn k r
theorem kK(kvs:List (κ×V))(k:κ)(v:V):(dR kvs k v).length<=kvs.length+1:=by
 unfold dR
 split
 ·rw[BJ];omega
 ·rw[BL,BS,CT];omega
theorem eZ.isSome_eq{o:Option V}{u:Option Value}(r:eZ o u):o.isSome=u.isSome:=by
 cases o with
 | none=>cases u with
  | none=>rfl
  | some _=>exact(show False from r).elim
 | some _=>cases u with
  | none=>exact(show False from r).elim
  | some _=>rfl
theorem eZ.getD{o:Option V}{u:Option Value}{d:V}{d' :Value}(r:eZ o u)(rd:RelV d d'):RelV (o.getD d) (u.getD d'):=by
 cases o with
 | none=>cases u with
  | none=>exact rd
  | some _=>exact(show False from r).elim
 | some _=>cases u with
  | none=>exact(show False from r).elim
  | some _=>exact r
theorem KV.val{kvs:List (κ×V)}{vs:List (κ×Value)}(r:KV kvs vs)(k:κ):eZ (fE kvs k) (valueAt vs k):=by
 unfold KV at r
 induction r with
 | nil=>exact True.intro
 | @cons p q ps qs h t ih =>
  obtain⟨h1,h2⟩:=h
  by_cases e:p.1=k
  ·have e' :q.1=k:=h1.symm.trans e
   have b:valueAt (q::qs) k=some q.2:=by simp[valueAt,Ce,e']
   rw[fk e,b];exact h2
  ·have e' :¬q.1=k:=fun z=>e (h1.trans z)
   have b:valueAt (q::qs) k=valueAt qs k:=by simp[valueAt,Ce,e']
   rw[fm e,b];exact ih
theorem KV.any{kvs:List (κ×V)}{vs:List (κ×Value)}(r:KV kvs vs)(k:κ):(kvs.any fun kv=>decide (kv.1=k))=vs.any fun kv=>decide (kv.1=k):=by
 unfold KV at r
 induction r with
 | nil=>rfl
 | cons h t ih=>rw[Cq,Cq,ih,h.1]
theorem KV.repl{kvs:List (κ×V)}{vs:List (κ×Value)}(r:KV kvs vs)(k:κ){y:V}{u:Value}(ry:RelV y u) :
  KV (kvs.map fun kv=>if kv.1=k then(kv.1,y)else kv) (vs.map fun kv=>if kv.1=k then(kv.1,u)else kv):=by
 unfold KV at r ⊢
 induction r with
 | nil=>exact .nil
 | @cons p q ps qs h t ih =>
  rw[BZ,BZ];refine .cons ?_ ih;obtain⟨h1,h2⟩:=h
  by_cases e:p.1=k
  ·rw[BK e,BK (h1.symm.trans e)];exact⟨h1,ry⟩
  ·rw[BI e,BI (fun z=>e (h1.trans z))];exact⟨h1,h2⟩
theorem KV.put{kvs:List (κ×V)}{vs:List (κ×Value)}(r:KV kvs vs)(k:κ){y:V}{u:Value}(ry:RelV y u):KV (dR kvs k y) (stored vs k u):=by
 unfold dR stored;rw[r.any k]
 by_cases e:(vs.any fun kv=>decide (kv.1=k))=true
 ·rw[BK e,BK e];exact r.repl k ry
 ·rw[BI e,BI e];exact Paired.snoc r ⟨rfl,ry⟩
theorem KV.length{kvs:List (κ×V)}{vs:List (κ×Value)}(r:KV kvs vs):kvs.length=vs.length:=Paired.length r
end
theorem AS{P:Program}{w:World}{k:aq}{u:Value}(r:RelV (kV k) u):(bA P w).is k u=true:=by
 cases k with
 | inl i=>obtain⟨t,e⟩:=(show∃t,u=Value.int i t from r);subst e;exact kG P w i t
 | inr x=>obtain⟨t,e⟩:=(show∃t,u=Value.str x t from r);subst e;exact kF P w x t
noncomputable abbrev KT(H:Hp):List (List aq×V)->List (List aq×Addr×Value)->Prop:=Paired fun p q=>p.1=q.1/\H q.2.1=some (.tup (p.1.map kV))/\RelV p.2 q.2.2
theorem KT.val{H:Hp}{kvs:List (List aq×V)}{xs:List (List aq×Addr×Value)}(r:KT H kvs xs)(k:List aq):eZ (fE kvs k) ((atKey xs k).map (·.2)):=by
 induction r with
 | nil=>exact True.intro
 | @cons p q ps qs h t ih =>
  obtain⟨h1,_,h2⟩:=h
  by_cases e:p.1=k
  ·have e' :q.1=k:=h1.symm.trans e
   have b:atKey (q::qs) k=some q.2:=by simp[atKey,Ce,e']
   rw[fk e,b];exact h2
  ·have e' :¬q.1=k:=fun z=>e (h1.trans z)
   have b:atKey (q::qs) k=atKey qs k:=by simp[atKey,Ce,e']
   rw[fm e,b];exact ih
theorem KT.repl{H:Hp}{kvs:List (List aq×V)}{xs:List (List aq×Addr×Value)}(r:KT H kvs xs)(k:List aq){y:V}{u:Value}(ry:RelV y u) :
  KT H (kvs.map fun kv=>if kv.1=k then(kv.1,y)else kv) (xs.map (putAt k u)):=by
 induction r with
 | nil=>exact .nil
 | @cons p q ps qs h t ih =>
  rw[BZ,BZ];refine .cons ?_ ih;obtain⟨h1,h2,h3⟩:=h;unfold putAt
  by_cases e:p.1=k
  ·rw[BK e,BK (h1.symm.trans e)];exact⟨h1,h2,ry⟩
  ·rw[BI e,BI (fun z=>e (h1.trans z))];exact⟨h1,h2,h3⟩
theorem KT.put{H:Hp}{kvs:List (List aq×V)}{xs:List (List aq×Addr×Value)}(r:KT H kvs xs)(k:List aq){b:Addr}{y:V}{u:Value}(hb:H b=some (.tup (k.map kV)))(ry:RelV y u) :
  KT H (dR kvs k y) (storedH xs k b u):=by
 have e:(kvs.any fun kv=>decide (kv.1=k))=(atKey xs k).isSome:=by
  rw[jn,(r.val k).isSome_eq,Option.isSome_map]
 unfold dR storedH;rw[e]
 by_cases q:(atKey xs k).isSome=true
 ·rw[BK q,BK q];exact r.repl k ry
 ·rw[BI q,BI q];exact Paired.snoc r ⟨rfl,hb,ry⟩
theorem KT.keeps{H H' :Hp}{kvs:List (List aq×V)}{xs:List (List aq×Addr×Value)}(r:KT H kvs xs)(ht:∀b ys,H b=some (.tup ys)->H' b=some (.tup ys)):KT H' kvs xs :=
 Paired.mapP r fun _ _ z=>⟨z.1,ht _ _ z.2.1,z.2.2⟩
section
variable{P:Program}{w:World}{H:Hp}{h:Heap}{a:Addr}
theorem zp{u:HO}(ok:cS P w H h)(e:Rd H a u):aY P w H h a u:=e.ok ok
theorem wM{kvs:List (aq×V)}(ok:cS P w H h)(e:Rd H a (.dK kvs)):kvs.length<=sizeLine/\(a==sysModules)=false/\∃vs,KV kvs vs/\h.DictOf (bA P w) a vs :=
 show aY P w H h a (.dK kvs)from zp ok e
theorem Ag{kvs:List (aq×V)}(ok:cS P w H h)(e:H a=some (.dK kvs)):kvs.length<=sizeLine/\(a==sysModules)=false/\∃vs,KV kvs vs/\h.DictOf (bA P w) a vs:=wM ok (.inl e)
end
noncomputable def vo(H:Hp)(a:Addr)(y:V)(r:Option V):Prop :=
 (∃kvs k,Rd H a (.dK kvs)/\y=kV k/\r=fE kvs k)\/∃kvs k b,Rd H a (.dT kvs)/\y=.ref b/\H b=some (.tup (k.map kV))/\r=fE kvs k
noncomputable def vm(H:Hp)(a:Addr)(y v:V)(H' :Hp):Prop :=
 (∃kvs k,H a=some (.dK kvs)/\y=kV k/\kvs.length<sizeLine/\H' =upd H a (.dK (dR kvs k v))) \/
 ∃kvs k b,H a=some (.dT kvs)/\y=.ref b/\H b=some (.tup (k.map kV))/\kvs.length<sizeLine/\H' =upd H a (.dT (dR kvs k v))
theorem vo.k{H:Hp}{a:Addr}{kvs:List (aq×V)}{k:aq}(e:H a=some (.dK kvs)):vo H a (kV k) (fE kvs k):=.inl ⟨kvs,k,.inl e,rfl,rfl⟩
theorem vo.t{H:Hp}{a b:Addr}{kvs:List (List aq×V)}{k:List aq}(e:H a=some (.dT kvs))(eb:H b=some (.tup (k.map kV))):vo H a (.ref b) (fE kvs k):=.inr ⟨kvs,k,b,.inl e,rfl,eb,rfl⟩
theorem vm.k{H:Hp}{a:Addr}{kvs:List (aq×V)}{k:aq}{v:V}(e:H a=some (.dK kvs))(hl:kvs.length<sizeLine):vm H a (kV k) v (upd H a (.dK (dR kvs k v))):=.inl ⟨kvs,k,e,rfl,hl,rfl⟩
theorem vm.t{H:Hp}{a b:Addr}{kvs:List (List aq×V)}{k:List aq}{v:V}(e:H a=some (.dT kvs))(eb:H b=some (.tup (k.map kV)))(hl:kvs.length<sizeLine) :
  vm H a (.ref b) v (upd H a (.dT (dR kvs k v))):=.inr ⟨kvs,k,b,e,rfl,eb,hl,rfl⟩
section
variable{X:Cx}{pins:List (Addr×Obj)}{σ:St}{H:Hp}{s:Shared}{a:Addr}{y v:V}{u r:Value}{o:Option V}{A:Around}{E:Value->Shared->Prop}
theorem Inv.big(I:Inv X pins σ H s):sysModules<s.heap.objs.size:=by
 have h:mainGlobals<s.heap.objs.size:=(I.mod.glob.keeps I.bk).lt;exact CS (by decide) h
theorem vP{h' :Heap}{t' :Nat}{ob:HO}(I:Inv X pins σ H s)(mu:zB (H a))(hs:Heap.SameBut a s.heap h')(he:∃q,h'.get? a=some q)(new:aY X.prog X.w (upd H a ob) h' a ob) :
  Inv X pins σ (upd H a ob) {s with heap:=h',toks:=t'} :=
 I.write (x:=a) (e:=a) mu (.inl rfl) (fun b q hb z=>(hs.2 b hb).trans z) he new
theorem yT{P:Program}{w:World}{H' :Hp}{h' :Heap}{kvs:List (aq×V)}{vs:List (aq×Value)}(z:kvs.length<=sizeLine)(hd:(a==sysModules)=false)(rel:KV kvs vs)(dd:h'.DictOf (bA P w) a vs) :
  aY P w H' h' a (.dK kvs):=⟨z,hd,vs,rel,dd⟩
end
section
variable{X:Cx}{pins:List (Addr×Obj)}{σ:St}{H:Hp}{s:Shared}{a:Addr}{kvs:List (aq×V)}{k:aq}{u:Value}{A:Around}{E:Value->Shared->Prop}
theorem Ah{Q:Value->Shared->Prop}(I:Inv X pins σ H s)(e:Rd H a (.dK kvs))(h:∀t s',Inv X pins σ H s' ->Q (.int kvs.length t) s'):wpAny (model X.prog X.w) A (call (.builtin "len") [.ref a]) Q E s:=by
 obtain⟨z,hd,vs,rel,dd⟩:=wM I.hok e;refine call_len_dict hd dd (by rw[<- rel.length];rw[Bw]at z;omega) ?_;rw[<- rel.length];exact h _ _ (I.tok _)
end
section
variable{X:Cx}{o i e value:Expr}{pos pos' tpos:Pos}{td ty tv:TE}
end
theorem kl{P:Program}{w:World}{H:Hp}(h:Heap)(hb:sysModules<h.objs.size):aY P w H (h.push {cls:=.type "dict",data:=.dict #[]}) h.objs.size (.dK []) :=
 ⟨Be _,beq_eq_false_iff_ne.mpr (CQ (BX hb)),[],.nil,Heap.DictOf.new h⟩
noncomputable def wm:TE:=fun _ H Q=>∀p,H p=none->Q (.ref p) (upd H p (.dK []))
section
variable{X:Cx}{pos:Pos}
theorem qk:PE X (.Dict [] [] pos) wm:=fun pins s σ H Q I h =>
 wpAny_Dict_empty ⟨.ref s.heap.objs.size,_,I.laid (a:=s.heap.objs.size) (o:=.dK []) (t' :=s.toks) (fun _ _ q=>BA _ q) (BD _) (kl s.heap I.big),rfl,h _ (I.hok.fresh (BD _))⟩
end
noncomputable def lI:List (TE×TE)->St->Hp->(List (V×V)->Hp->Prop)->Prop
 | [],_,H,Q=>Q [] H
 | (tk,tv)::r,σ,H,Q=>tk σ H fun x H1=>tv σ H1 fun y H2=>lI r σ H2 fun ps H3=>Q ((x,y)::ps) H3
noncomputable abbrev VV:List (V×V)->List (Value×Value)->Prop:=Paired fun p q=>RelV p.1 q.1/\RelV p.2 q.2
noncomputable def PPs(X:Cx)(pos:Pos)(keys:List (Option Expr))(values:List Expr)(trs:List (TE×TE)):Prop :=
 ∀(pins:List (Addr×Obj))(s:Shared)(σ:St)(H:Hp)(Q:List (V×V)->Hp->Prop),Inv X pins σ H s->lI trs σ H Q ->
  wpAny (model X.prog X.w) X.A (evalPairs (pairTrees keys values X.env pos)) (fun vs s' =>∃ps H',Inv X pins σ H' s' /\VV ps vs/\Q ps H') X.xe s
theorem uS{X:Cx}{pos:Pos}:PPs X pos [] [] []:=fun pins s σ H Q I h=>pairTrees_nil_walk ⟨[],H,I,.nil,h⟩
theorem qQ{X:Cx}{pos:Pos}{k v:Expr}{ks:List (Option Expr)}{vs:List Expr}{tk tv:TE}{trs:List (TE×TE)}(hk:PE X k tk)(hv:PE X v tv)(hr:PPs X pos ks vs trs) :
  PPs X pos (some k::ks) (v::vs) ((tk,tv)::trs):=fun pins s σ H Q I h =>
 pairTrees_cons_walk (ae (hk pins s σ H _ I h) fun u s1 ⟨x,H1,I1,rx,q1⟩=>ae (hv pins s1 σ H1 _ I1 q1) fun w2 s2 ⟨y,H2,I2,ry,q2⟩ =>
  ae (hr pins s2 σ H2 _ I2 q2) fun ws s3 ⟨ps,H3,I3,rel,q3⟩=>⟨(x,y)::ps,H3,I3,.cons ⟨rx,ry⟩ rel,q3⟩)
noncomputable def dW(kvs more:List (aq×V)):List (aq×V):=more.foldl (fun acc kv=>dR acc kv.1 kv.2) kvs
theorem KV.merge:∀{more:List (aq×V)}{rs:List (aq×Value)}{kvs:List (aq×V)}{vs:List (aq×Value)},KV more rs->KV kvs vs->KV (dW kvs more) (merged vs rs):=by
 intro more rs kvs vs r;unfold KV at r
 induction r generalizing kvs vs with
 | nil=>intro q;exact q
 | @cons p q ps qs h t ih =>
  intro r0;have e:KV (dR kvs p.1 p.2) (stored vs q.1 q.2):=by
   have:=r0.put p.1 h.2;rw[<- h.1];exact this
  exact ih e
theorem dJ:∀(more kvs:List (aq×V)),(dW kvs more).length<=kvs.length+more.length
 | [],kvs=>by show kvs.length<=kvs.length+0;omega
 | p::r,kvs=>by
  have h1:=dJ r (dR kvs p.1 p.2);have h2:=kK kvs p.1 p.2;show(dW (dR kvs p.1 p.2) r).length<=_;rw[BS];omega
theorem ge{P:Program}{w:World}:∀{kvs:List (aq×V)}{ws:List (Value×Value)},VV (kvs.map fun kv=>(kV kv.1,kv.2)) ws->∃rs,Carries (bA P w) ws rs/\KV kvs rs
 | [],_,r=>by rw[Ca]at r;cases r;exact⟨[],True.intro,.nil⟩
 | p::kvs,_,r=>by
  rw[BZ]at r;cases r with
  | @cons a b as bs h t =>
   obtain⟨rs,c,q⟩:=ge (P:=P) (w:=w) t;obtain⟨b1,b2⟩:=b;exact⟨(p.1,b2)::rs,⟨AS h.1,rfl,c⟩,.cons ⟨rfl,h.2⟩ q⟩
noncomputable def zX(trs:List (TE×TE)):TE:=fun σ H Q=>∀p,H p=none->lI trs σ (upd H p (.dK [])) fun ps H2=>H2 p=some (.dK [])/\∃kvs:List (aq×V),ps=kvs.map (fun kv=>(kV kv.1,kv.2))/\kvs.length<=15/\Q (.ref p) (upd H2 p (.dK (dW [] kvs)))
theorem ua{X:Cx}{pos:Pos}{keys:List (Option Expr)}{values:List Expr}{trs:List (TE×TE)}(h:PPs X pos keys values trs)(hall:keys.all (·.isSome)=true)(hl:keys.length=values.length)(h0:keys≠[])
  (h15:keys.length<=15):PE X (.Dict keys values pos) (zX trs):=by
 intro pins s σ H Q I q;have hn:=I.hok.fresh (BD s.heap.objs.size);have I1:=I.laid (a:=s.heap.objs.size) (o:=.dK []) (h' :=s.heap.push {cls:=.type "dict",data:=.dict #[]}) (t' :=s.toks) (fun _ _ q=>BA _ q) (BD _) (kl s.heap I.big);refine wpAny_Dict_walk (knd:=bA X.prog X.w) hall hl h0 h15 (ae (h pins _ σ _ _ I1 (q _ hn)) fun ws s2 hpq=> ?_);obtain⟨ps,H2,I2,rel,e,kvs,ep,lk,q2⟩:=hpq;subst ep;obtain⟨rs,c,rk⟩:=ge (P:=X.prog) (w:=X.w) rel;obtain⟨z,hd,vs0,r0,dd⟩:=Ag I2.hok e;cases r0;refine⟨rs,c,dd,fun h' dd' hs=>⟨.ref s.heap.objs.size,_,?_,rfl,q2⟩⟩;have hz:(dW [] kvs).length<=sizeLine:=by
  have h1:=dJ kvs [];rw[CT]at h1;rw[Bw];omega
 have he:∃q,h'.get? s.heap.objs.size=some q:=let⟨q,_,_,hq,_⟩:=dd';⟨q,hq⟩
 exact vP I2 (by rw[e];exact True.intro) hs he (yT hz hd (rk.merge .nil) dd')
section
variable{X:Cx}{pins:List (Addr×Obj)}{σ:St}{H:Hp}{s:Shared}{a:Addr}{y d:V}{u r:Value}{o:Option V}{A:Around}{E:Value->Shared->Prop}
end
section
variable{X:Cx}{o e f:Expr}{apos cpos:Pos}{td ty tx:TE}
end
section
variable{X:Cx}{pins:List (Addr×Obj)}{σ:St}{H:Hp}{s:Shared}{a:Addr}{kvs:List (aq×V)}{A:Around}{E:Value->Shared->Prop}
end
section
variable{X:Cx}{pins:List (Addr×Obj)}{σ:St}{H:Hp}{s:Shared}{a:Addr}{y:V}{u:Value}{A:Around}{E:Value->Shared->Prop}
end
section
variable{κ:Type}[DecidableEq κ]
end
noncomputable def cd(rows:List Str)(i j:Nat):Nat:=((rows.getD i ⟨#[]⟩).cps.toList).getD j 0
noncomputable def fl(c:Nat):Nat:=if c=120 then 46 else 120
noncomputable def sg(o:Bool)(c:Nat):Nat:=if o then fl c else c
open AutoSeq1 (wpAny_loadPart')
section
variable{X:Cx}
end
open AutoSeq1 (wpAny_loadPart')
section
variable{X:Cx}
theorem qB:yz X (fun x lo hi H Q=>∃z,x=.str z/\z.length<=sizeLine/\Q (.str (Txt.slice z lo hi)) H):=by
 intro pins s σ H x v vl vu lo hi sl Q I rx hs pl pu h;obtain⟨z,rfl,hz,q⟩:=h;obtain⟨t,rfl⟩:=rx;refine⟨"str",_,slot_str_getitem.lookup,typeIs_str _ _ _,?_⟩;have fin:∀t' k,EP X pins σ Q (.str (Txt.slice z lo hi) t') {s with toks:=k}:=fun t' k=>⟨.str _,H,I.tok _,⟨_,rfl⟩,q⟩;cases pl with
 | none =>
  cases pu with
  | none=>exact Co (l:=none) (u:=none) (st:=none) hs rfl (post_val_or_str ⟨Ba (Txt.slice_le z _ _) hz,fin⟩)
  | int j uj=>exact Co (l:=none) (u:=some (j,uj)) (st:=none) hs rfl (post_val_or_str ⟨Ba (Txt.slice_le z _ _) hz,fin⟩)
 | int i ui =>
  cases pu with
  | none=>exact Co (l:=some (i,ui)) (u:=none) (st:=none) hs rfl (post_val_or_str ⟨Ba (Txt.slice_le z _ _) hz,fin⟩)
  | int j uj=>exact Co (l:=some (i,ui)) (u:=some (j,uj)) (st:=none) hs rfl (post_val_or_str ⟨Ba (Txt.slice_le z _ _) hz,fin⟩)
theorem vF(k n:Nat):Builtin.Str.strSliceIndices none (some (k:Int)) 1 n=(List.range (min k n)).map fun i=>0+i:=by
 unfold Builtin.Str.strSliceIndices sliceRange;have c:((if(0:Int)<max 0 (min (k:Int) (n:Int))then(max 0 (min (k:Int) (n:Int))-0+1-1)/1 else 0):Int).toNat=min k n:=by
  rw[Int.ediv_one]
  split<;>omega
 simp only[show(1:Int)>0 by decide,CK,show¬((k:Int)<0)by omega,C8,c];refine C5 fun i _=> ?_;omega
theorem vE(k n:Nat):Builtin.Str.strSliceIndices (some (k:Int)) none 1 n=(List.range (n-min k n)).map fun i=>min k n+i:=by
 unfold Builtin.Str.strSliceIndices sliceRange;have c:((if max 0 (min (k:Int) (n:Int))<(n:Int)then((n:Int)-max 0 (min (k:Int) (n:Int))+1-1)/1 else 0):Int).toNat=n-min k n:=by
  rw[Int.ediv_one]
  split<;>omega
 simp only[show(1:Int)>0 by decide,CK,show¬((k:Int)<0)by omega,C8,c];refine C5 fun i _=> ?_;omega
theorem nw(z:Str)(k:Nat):(Txt.slice z none (some (k:Int))).cps.toList=z.cps.toList.take k:=by
 have l:z.cps.toList.length=z.length:=by rw[Br];rfl
 have p:=StrLaws.picks z.cps.toList (min k z.length) 0 (by omega);have f:(fun(i:Nat)=>z.cps[i]?)=fun i=>z.cps.toList[i]? :=by funext i;simp
 unfold Txt.slice;rw[vF]
 split
 ·rename_i h
  simp only[BJ,DI,BB,B7]at h;rw[List.take_of_length_le (by omega)]
 ·rw[f,p,List.drop_zero]
  show(List.take (min k z.length) z.cps.toList).toArray.toList=_;rw[List.toList_toArray,<-l,<-List.take_eq_take_min]
theorem nu(z:Str)(k:Nat):(Txt.slice z (some (k:Int)) none).cps.toList=z.cps.toList.drop k:=by
 have l:z.cps.toList.length=z.length:=by rw[Br];rfl
 have p:=StrLaws.picks z.cps.toList (z.length-min k z.length) (min k z.length) (by omega);have f:(fun(i:Nat)=>z.cps[i]?)=fun i=>z.cps.toList[i]? :=by funext i;simp
 unfold Txt.slice;rw[vE]
 split
 ·rename_i h
  simp only[BJ,DI,BB,B7]at h
  by_cases hz:z.length=0
  ·have:z.cps.toList=[]:=List.eq_nil_of_length_eq_zero (by omega)
   rw[this];simp
  ·have:k=0:=by omega
   subst this;rfl
 ·rw[f,p]
  show(List.take (z.length-min k z.length) (List.drop (min k z.length) z.cps.toList)).toArray.toList=_;rw[List.toList_toArray,List.take_of_length_le (by rw[CO];omega)]
  by_cases h:k<=z.length
  ·rw[Nat.min_eq_left h]
  ·rw[Nat.min_eq_right (by omega),List.drop_of_length_le (by omega),List.drop_of_length_le (by omega)]
end
section
variable{P:Program}{w:World}{A:Around}{E:Value->Shared->Prop}{s:Shared}
end
open AutoSeq1 (wpAny_loadPart')
section
variable{X:Cx}
theorem jm{ns:List Int}{us:List Value}{i:Nat}{v:Value}(r:aI (ns.map V.int) us)(h:us[i]? =some v):∃t,v=.int (ns.getD i 0) t:=by
 have hl:=r.length;rw[BJ]at hl;have hi:i<us.length:=(BM.mp h).1;obtain⟨u,hu,ru⟩:=r.get (i:=i) (x:=.int (ns[i]'(by omega))) (by simp[show i<ns.length by omega]);rw[hu]at h;cases h;obtain⟨t,e⟩:=ru;refine⟨t,?_⟩;rw[e];simp[List.getD,show i<ns.length by omega]
theorem eh(ns:List Int):∀k,k<=ns.length->preSum (fun i=>ns.getD i 0) k=(ns.take k).sum
 | 0,_=>by simp[preSum]
 | k+1,h=>by
  have e:ns.take (k+1)=ns.take k++[ns[k]'(by omega)]:=by rw[List.take_add_one];simp[show k<ns.length by omega]
  rw[preSum,eh ns k (by omega),e,List.sum_append];simp[List.getD,show k<ns.length by omega]
theorem hE(hc:X.calm=true):ay X (.builtin "sum") (fun xs H Q=>∃(p:Addr)(ns:List Int),xs=[.ref p]/\aj X.K H p (ns.map V.int)/\Q (.int ns.sum) H):=by
 intro pins s σ H xs us Q I r h;obtain⟨p,ns,rfl,hq,q⟩:=h;obtain⟨u,rfl,rx⟩:=vals1 r;cases rx;obtain⟨its,r',pl,hz⟩:=I.list hq;have hlen:=r'.length;rw[BJ]at hlen;have hp:p<s.heap.objs.size:=by
  obtain⟨o,e,_⟩:=pl.isList;exact BE e
 refine call_sum_walkAnyS (wpAny_pyIter_list pl.isList ?_);refine⟨s.heap.objs.size,_,_,_,its.toArray.size,_,_,(fun i=>ns.getD i 0),rfl,(Walks.list (A:=X.A.in1) (I.ok.hd hc) s.heap.objs.size p (BX hp) its.toArray).toS,⟨⟨_,BR _ rfl,rfl,rfl⟩,pl.isList.push _⟩,?_,?_,?_⟩
 ·intro b hb
  simp at hb
  rcases hb with rfl|rfl
  ·rw[size_push'];exact Nat.lt_succ_self _
  ·rw[size_push'];exact Nat.lt_succ_of_lt hp
 ·intro i v hv
  exact jm r' (by simpa using hv)
 ·intro s' t' hm
  obtain⟨m1,m2,m3,m4,m5⟩:=hm;have e:s' ={s with heap:=s'.heap,toks:=s'.toks}:=by
   cases s';simp only at m2 m3 m4;subst m2 m3 m4;rfl
  rw[e];refine⟨.int ns.sum,H,I.kept (t' :=s'.toks) (fun b o z=>m1 b o (by simpa using BX (BE z)) (BA _ z)),⟨t',?_⟩,q⟩;rw[BH,<-hlen,eh ns _ (BD _),List.take_length]
theorem df:∀{us:List Value}{ns:List Int},IntsAre us ns->aI (ns.map V.int) us
 | _,_,.nil=>.nil
 | _,_,.cons n t r=>.cons ⟨t,rfl⟩ (df r)
noncomputable def sortI(ns:List Int):List Int:=ns.mergeSort (fun a b=>decide (a<=b))
theorem sortI_perm(ns:List Int):(sortI ns).Perm ns:=List.mergeSort_perm _ _
theorem px(ns:List Int):(sortI ns).Pairwise (·<=·):=by
 have:=List.pairwise_mergeSort (le:=fun a b:Int=>decide (a<=b)) (fun a b c h1 h2=>by simp at *;omega) (fun a b=>by simp;omega) ns;exact this.imp fun h=>by simpa using h
theorem iX{ns ms:List Int}(h:ms.Perm ns)(s:ms.Pairwise (·<=·)):ms=sortI ns :=
 List.Perm.eq_of_pairwise (le:=(·<=·)) (fun a b _ _ h1 h2=>Int.le_antisymm h1 h2) s (px ns) (h.trans (sortI_perm ns).symm)
theorem eS:ay X (.builtin "sorted") (fun xs H Q=>∃(p:Addr)(ns:List Int),xs=[.ref p]/\aj X.K H p (ns.map V.int)/\ns.length<64/\∀a,H a=none->Q (.ref a) (upd H a (.lst ((sortI ns).map V.int)))):=by
 intro pins s σ H xs us Q I r h;obtain⟨p,ns,rfl,hq,h64,q⟩:=h;obtain⟨u,rfl,rx⟩:=vals1 r;cases rx;obtain⟨its,r',pl,hz⟩:=I.list hq;have hlen:=r'.length;rw[BJ]at hlen;refine sorted_ints pl.isList (intsAre_of r') (by omega) fun out ns' a1 a2 a3=> ?_;have e:=iX a2 a3;subst e;obtain⟨c,hc⟩:=sortedAll_at s.heap its out;refine⟨.ref (s.heap.objs.size+1),_,I.laid (t' :=s.toks) (o:=.lst ((sortI ns).map V.int)) (fun b o z=>sortedAll_old z) (Cu _) ?_,rfl,q _ (I.hok.fresh (Cu _))⟩;refine⟨?_,out.toList,c,df a1,by simpa [seqObj]using hc⟩;rw[BJ,(sortI_perm ns).length_eq];have:=Bw;omega
noncomputable def tO(i j:Int):Prop:=i.natAbs<2^2000/\j.natAbs<2^2000
theorem intBits_le{k:Int}(h:k.natAbs<2^2000):Builtin.Int.intBits k<=2000:=by
 unfold Builtin.Int.intBits
 split
 ·exact Be _
 ·have:k.natAbs.log2<2000:=by
   rcases Nat.eq_zero_or_pos k.natAbs with h0|hp
   ·rw[h0];decide
   ·exact(Nat.log2_lt (C7 hp)).mpr h
  omega
theorem tO.ok{i j:Int}(h:tO i j):IntMulOk i j:=by
 unfold IntMulOk;have h1:=intBits_le h.1;have h2:=intBits_le h.2;have h3:Builtin.Int.intTooBig (Builtin.Int.intBits i+Builtin.Int.intBits j)=false:=by
  unfold Builtin.Int.intTooBig;have:((4000:Nat):Int)<=(bitsLine:Nat):=by decide
  exact Bh (by omega)
 rw[h3];simp
theorem ud:cO X (binaryOp .Mult) (rI tO fun i j=>.int (i*j)):=AL fun _ _ _ _ _ _ _ hc q=>mul_int q hc.ok
theorem mF:ay X (.builtin "len") (fun xs H Q=>∃a kvs,xs=[V.ref a]/\Rd H a (.dK kvs)/\Q (.int kvs.length) H):=by
 intro pins s σ H xs us Q I r h;obtain⟨a,kvs,rfl,ha,q⟩:=h;obtain⟨u,rfl,ru⟩:=vals1 r;cases ru;exact Ah I ha fun t s' I' =>⟨.int kvs.length,H,I',⟨t,rfl⟩,q⟩
noncomputable def NF(X:Cx)(a:Addr):Prop:=∀o u,X.H₀ a≠some (.frz o u)
theorem Inv.nf{pins:List (Addr×Obj)}{σ:St}{H:Hp}{s:Shared}{a:Addr}{kvs:List (aq×V)}(I:Inv X pins σ H s)(ha:H a=some (.dK kvs)):NF X a:=fun o u e=>by
 have:=I.base.frzs a o u e;rw[ha]at this;cases this
end
namespace RV
section
variable{prog:Program}{w:World}{A:Around}{E:Value->Shared->Prop}{s:Shared}{x:Str}{t:Tok}
end
end RV
end L2
namespace L2
open PySem PySem.Spec PyProof.Rows
namespace RV
noncomputable def A3(h:Heap)(a:Addr)(x:Str)(t:Tok)(i:Int):Prop:=∃o,h.get? a=some o/\o.cls=.type "reversed"/\o.data=.fields #[.str x t,rawInt i]
section
variable{prog:Program}{w:World}{A:Around}{E:Value->Shared->Prop}{s:Shared}{x:Str}{t:Tok}{a:Addr}
theorem A3.ty{i:Int}(r:A3 s.heap a x t i):s.TypeIs (.ref a) "reversed":=by
 obtain⟨o,e,c,_⟩:=r;exact⟨o,e,c⟩
end
end RV
end L2
namespace L2
open PySem PySem.Spec PyProof.Rows
namespace RV
section
variable{prog:Program}{w:World}{A:Around}{E:Value->Shared->Prop}{s:Shared}{x:Str}{t:Tok}{a:Addr}
end
end RV
end L2
namespace L2
open PySem PySem.Spec PyProof.Rows
namespace RV
open Builtin Builtin.Str Builtin.Int
section
variable{prog:Program}{w:World}{A:Around}{E:Value->Shared->Prop}{s:Shared}{x sep:Str}{t u:Tok}{a:Addr}
end
end RV
section
variable{X:Cx}
end
end L2
namespace L2
open PySem PySem.Spec PyProof.Rows
section
variable{X:Cx}
section
variable{prog:Program}{w:World}{A:Around}{E:Value->Shared->Prop}{s:Shared}{d:Addr}{od:Obj}{es:Array DictEntry}{ep:Nat}
end
section
variable{prog:Program}{w:World}{A:Around}{E:Value->Shared->Prop}{s:Shared}
end
end
section
variable{prog:Program}{w:World}{A:Around}{E:Value->Shared->Prop}{s:Shared}
end
section
variable{X:Cx}
end
end L2
namespace SQ
open PySem
noncomputable def lst(m:Nat):List Nat:=(List.range 8).filter fun v=>m/2^v%2==1
noncomputable def put(m v:Nat):Nat:=if m/2^v%2=1 then m else m+2^v
noncomputable def tab(led:Bool)(m:Nat):SetTable:={mask:=if(lst m).length<5 then 7 else 31,place:=(lst m).toArray,dummies:= #[],finger:=0,led:=led,moves:=if(lst m).length<5 then 0 else 1,plain:=true}
noncomputable def at_(m v:Nat):Nat:=((lst m).filter (·<v)).length
noncomputable def oO:Value->Option Int
 | .int i _=>some i
 | _=>none
theorem oN{x:Value}{i:Int}(h:oO x=some i):∃t,x=.int i t:=by
 cases x<;>simp[oO]at h;subst h;exact⟨_,rfl⟩
noncomputable def mR(es:List (Int×Value))(m:Nat):Prop:=es.map (fun e=>(e.1,oO e.2))=(lst m).map fun v:Nat=>((v:Int),some (v:Int))
noncomputable def SX(w:World)(a:Addr)(m:Nat)(h:Heap):Prop:=∃o es ep,h.get? a=some o/\o.ExactSet/\o.data=.set es ep (tab (!w.params.followText "set-order") m)/\mR es.toList m
theorem mR.len{es:List (Int×Value)}{m:Nat}(h:mR es m):es.length=(lst m).length:=by
 have:=B4 List.length h
 simpa using this
theorem mR.at{es:List (Int×Value)}{m:Nat}(h:mR es m){e:Int×Value}(he:e∈es):∃v t,v∈lst m/\e=((v:Int),.int (v:Int) t):=by
 have:(e.1,oO e.2)∈es.map (fun e=>(e.1,oO e.2)):=CI.mpr ⟨e,he,rfl⟩;rw[h]at this;obtain⟨v,hv,q⟩:=CI.mp this;obtain⟨e1,e2⟩:=e;simp only[Prod.mk.injEq]at q;obtain⟨t,z⟩:=oN q.2.symm;exact⟨v,t,hv,by rw[z,<-q.1]⟩
theorem mR.has{es:List (Int×Value)}{m:Nat}(h:mR es m){v:Nat}(hv:v∈lst m):∃t,((v:Int),Value.int (v:Int) t)∈es:=by
 have:((v:Int),some (v:Int))∈(lst m).map fun v:Nat=>((v:Int),some (v:Int)):=CI.mpr ⟨v,hv,rfl⟩;rw[<- h]at this;obtain⟨e,he,q⟩:=CI.mp this;obtain⟨u,t,-,rfl⟩:=h.at he;simp only[oO,Prod.mk.injEq]at q;have:u=v:=by omega
 subst this;exact⟨t,he⟩
section
variable{prog:Program}{w:World}{A:Around}{E:Value->Shared->Prop}{s:Shared}
end
noncomputable def zk(f:Nat->Nat):Nat->Nat->Nat->Nat
 | 0,_,m=>m
 | k+1,i,m=>zk f k (i+1) (put m (f i))
theorem SX.at{w:World}{a:Addr}{m:Nat}{h h' :Heap}(x:SX w a m h)(k:∀o,h.get? a=some o->h'.get? a=some o):SX w a m h' :=
 let⟨o,es,ep,ho,r⟩:=x
 ⟨o,es,ep,k o ho,r⟩
section
variable{prog:Program}{w:World}{A:Around}{E:Value->Shared->Prop}
variable{s:Shared}
noncomputable def bare(led:Bool):Obj:={cls:=.type "set",dict:=none,data:=.set #[] 0 (.fresh 0 0 led)}
end
section
variable{prog:Program}{w:World}{A:Around}{E:Value->Shared->Prop}{s:Shared}
end
noncomputable def tK(I a i n ep j:Nat)(h:Heap):Prop:=∃o,h.get? I=some o/\o.cls=.type "set_iterator"/\o.data=.fields #[.int (j:Nat) 0,.int (i:Nat) 0,.ref a,.int (n:Nat) 0,.int (ep:Nat) 0]
theorem tK.typeIs{I a i n ep j:Nat}{s:Shared}(x:tK I a i n ep j s.heap):s.TypeIs (.ref I) "set_iterator":=let⟨o,ho,hc,_⟩:=x;⟨o,ho,hc⟩
theorem tK.keep{I a i n ep j:Nat}{h h' :Heap}(x:tK I a i n ep j h)(k:∀o,h.get? I=some o->h'.get? I=some o):tK I a i n ep j h' :=let⟨o,ho,r⟩:=x;⟨o,k o ho,r⟩
section
variable{prog:Program}{w:World}{A:Around}
end
section
variable{prog:Program}{w:World}{A:Around}{E:Value->Shared->Prop}{s:Shared}
end
end SQ
namespace SQ
open PySem PyProof.Rows
section
variable{prog:Program}{w:World}{A:Around}{E:Value->Shared->Prop}{s:Shared}
end
end SQ
namespace L2
open PySem PySem.Spec PyProof.Rows
noncomputable def maskOf(ns:List Int):Nat:=SQ.zk (fun i=>(ns.getD i 0).toNat) ns.length 0 0
noncomputable def wE(ns:List Int):List Int:=(SQ.lst (maskOf ns)).map fun v:Nat=>(v:Int)
section
variable{X:Cx}
theorem Inv.ext{pins:List (Addr×Obj)}{σ:St}{H:Hp}{s:Shared}{a:Addr}{φ:Heap->Prop}(I:Inv X pins σ H s)(h:H a=some (.ext φ)):φ s.heap:=(show aY X.prog X.w H s.heap a (.ext φ)from I.hok a _ h).1
end
end L2
namespace SW
open PySem.W PyProof.Rows
noncomputable def run{α:Type}(f:Nat->Nat->Bool):KasT α->α
 | .ret a=>a
 | .ask i j k=>run f (k (f i j))
theorem cH{α β:Type}(f:Nat->Nat->Bool)(g:α->KasT β):∀t:KasT α,run f (t.bind g)=run f (g (run f t))
 | .ret _=>rfl
 | .ask i j k=>cH f g (k (f i j))
section
variable(key:Nat->Int)
noncomputable def F:Nat->Nat->Bool:=fun i j=>decide (key i<key j)
noncomputable def K(p:Array Nat)(i:Nat):Int:=key (p.getD i 0)
noncomputable def pL(p:Array Nat)(k:Nat):Prop:=∀i,i+1<k->K key p i<=K key p (i+1)
noncomputable def vk(p:Array Nat)(k:Nat):Prop:=∀i,i+1<k->K key p (i+1)<=K key p i
variable{key}
theorem pL.le{p:Array Nat}{k:Nat}(h:pL key p k):∀(d i:Nat),i+d<k->K key p i<=K key p (i+d)
 | 0,_,_=>Int.le_refl _
 | d+1,i,hk=>Int.le_trans (pL.le h d i (by omega)) (h (i+d) (by omega))
theorem pL.mono{p:Array Nat}{k:Nat}(h:pL key p k){i j:Nat}(hij:i<=j)(hj:j<k):K key p i<=K key p j:=by
 have:=h.le (j-i) i (by omega)
 rwa [show i+(j-i)=j by omega]at this
theorem vk.le{p:Array Nat}{k:Nat}(h:vk key p k):∀(d i:Nat),i+d<k->K key p (i+d)<=K key p i
 | 0,_,_=>Int.le_refl _
 | d+1,i,hk=>Int.le_trans (h (i+d) (by omega)) (vk.le h d i (by omega))
theorem vk.mono{p:Array Nat}{k:Nat}(h:vk key p k){i j:Nat}(hij:i<=j)(hj:j<k):K key p j<=K key p i:=by
 have:=h.le (j-i) i (by omega)
 rwa [show i+(j-i)=j by omega]at this
theorem tJ{p:Array Nat}{i j:Nat}(hj:j<=p.size)(x:Nat):K key (kas_rev p i j) x=if i<=x/\x<j then K key p (i+j-1-x)else K key p x:=by
 unfold K kas_rev;rw[Bt,getElem?_mirror_all hj]
 split
 ·rw[Bt]
 ·rw[Bt]
theorem asc(p:Array Nat):∀k n,n<=run (F key) (kas_asc p k n)/\run (F key) (kas_asc p k n)<=n+k/\(∀i,n<=i->i<run (F key) (kas_asc p k n)->K key p (i-1)<=K key p i) /\
  (run (F key) (kas_asc p k n)<n+k->K key p (run (F key) (kas_asc p k n))<K key p (run (F key) (kas_asc p k n)-1))
 | 0,n=>⟨BD _,BD _,fun i h1 h2=>absurd (show i<n from h2) (by omega),fun h=>absurd (show n<n+0 from h) (by omega)⟩
 | k+1,n=>by
  have e:run (F key) (kas_asc p (k+1) n)=if K key p n<K key p (n-1)then n else run (F key) (kas_asc p k (n+1)):=by
   show run (F key) (if F key (p.getD n 0) (p.getD (n-1) 0)=true then .ret n else kas_asc p k (n+1))=_;unfold F K
   by_cases c:key (p.getD n 0)<key (p.getD (n-1) 0)
   ·rw[BK (by simpa using c),BK c]
    rfl
   ·rw[BI (by simpa using c),BI c]
  rw[e]
  by_cases c:K key p n<K key p (n-1)
  ·rw[BK c]
   exact⟨BD _,by omega,fun i h1 h2=>by omega,fun _=>c⟩
  ·rw[BI c]
   obtain⟨a1,a2,a3,a4⟩:=asc p k (n+1);refine⟨by omega,by omega,fun i h1 h2=> ?_,fun h=>a4 (by omega)⟩
   rcases Nat.lt_or_ge n i with h|h
   ·exact a3 i h h2
   ·have:i=n:=by omega
    subst this;omega
structure Dn(p:Array Nat)(n q:Nat):Prop where
 one:q+1<=n
 sz:n<=p.size
 fal:vk key p n
 eqs:∀i,n-(q+1)<=i->i<n->K key p i=K key p (n-1)
theorem di(p:Array Nat)(i j:Nat):(kas_rev p i j).size=p.size:=mirror_size _ _ _ _
theorem gl{p:Array Nat}{i j:Nat}(hj:j<=p.size)(h:∀x,i<=x->x<j->K key p x=K key p (j-1))(x:Nat):K key (kas_rev p i j) x=K key p x:=by
 rw[tJ hj]
 split
 ·rename_i c
  rw[h (i+j-1-x) (by omega) (by omega),h x c.1 c.2]
 ·rfl
theorem vO:∀(k:Nat)(p:Array Nat)(n q:Nat),Dn (key:=key) p n q->n+k<=p.size ->
  Dn (key:=key) (run (F key) (kas_desc k p n q)).1 (run (F key) (kas_desc k p n q)).2.1 (run (F key) (kas_desc k p n q)).2.2/\(run (F key) (kas_desc k p n q)).1.Perm p/\(run (F key) (kas_desc k p n q)).2.1<=n+k
 | 0,p,n,q,h,_=>⟨h,C2 _,BD _⟩
 | k+1,p,n,q,h,hk=>by
  have h1:=h.one;have e:run (F key) (kas_desc (k+1) p n q)=if K key p n<K key p (n-1)then(if q>0 then run (F key) (kas_desc k (kas_rev p (n-(q+1)) n) (n+1) 0)else run (F key) (kas_desc k p (n+1) 0))else if K key p (n-1)<K key p n then(p,n,q)else run (F key) (kas_desc k p (n+1) (q+1)):=by
   show run (F key) (if F key (p.getD n 0) (p.getD (n-1) 0)=true then(if q>0 then kas_desc k (kas_rev p (n-(q+1)) n) (n+1) 0 else kas_desc k p (n+1) 0)else .ask (p.getD (n-1) 0) (p.getD n 0) fun d=>if d=true then .ret (p,n,q)else kas_desc k p (n+1) (q+1))=_
   by_cases c:K key p n<K key p (n-1)
   ·rw[BK (show F key (p.getD n 0) (p.getD (n-1) 0)=true by simpa [F,K]using c),BK c]
    split<;>rfl
   ·rw[BI (show¬F key (p.getD n 0) (p.getD (n-1) 0)=true by simpa [F,K]using c),BI c]
    show run (F key) (if F key (p.getD (n-1) 0) (p.getD n 0)=true then .ret (p,n,q)else kas_desc k p (n+1) (q+1))=_
    by_cases d:K key p (n-1)<K key p n
    ·rw[BK (show F key (p.getD (n-1) 0) (p.getD n 0)=true by simpa [F,K]using d),BK d]
     rfl
    ·rw[BI (show¬F key (p.getD (n-1) 0) (p.getD n 0)=true by simpa [F,K]using d),BI d]
  have longer:∀p' :Array Nat,p'.size=p.size->(∀x,K key p' x=K key p x)->K key p n<=K key p (n-1)->vk key p' (n+1):=fun p' z kk c i hi=>by
   rw[kk,kk]
   rcases Nat.lt_or_ge (i+1) n with y|y
   ·exact h.fal i y
   ·have:i=n-1:=by omega
    subst this;rw[show n-1+1=n by omega];exact c
  have new:∀p' :Array Nat,p'.size=p.size->(∀x,K key p' x=K key p x)->K key p n<=K key p (n-1)->Dn (key:=key) p' (n+1) 0:=fun p' z kk c =>
   ⟨by omega,by omega,longer p' z kk c,fun i i1 i2=>by
    have:i=n+1-1:=by omega
    rw[this]⟩
  rw[e]
  by_cases c:K key p n<K key p (n-1)
  ·rw[BK c]
   by_cases hq:q>0
   ·rw[BK hq]
    have kk:=gl (key:=key) (i:=n-(q+1)) h.sz h.eqs;obtain⟨a1,a2,a3⟩:=vO k (kas_rev p (n-(q+1)) n) (n+1) 0 (new _ (di _ _ _) kk (by omega)) (by rw[di];omega);exact⟨a1,a2.trans (Cn _ _ _ _),by omega⟩
   ·rw[BI hq]
    obtain⟨a1,a2,a3⟩:=vO k p (n+1) 0 (new p rfl (fun _=>rfl) (by omega)) (by omega);exact⟨a1,a2,by omega⟩
  ·rw[BI c]
   by_cases d:K key p (n-1)<K key p n
   ·rw[BK d]
    exact⟨h,C2 _,by dsimp only;omega⟩
   ·rw[BI d]
    obtain⟨a1,a2,a3⟩:=vO k p (n+1) (q+1) ⟨by omega,by omega,longer p rfl (fun _=>rfl) (by omega),fun i i1 i2=>by
     have z:K key p n=K key p (n-1):=by omega
     rw[show n+1-1=n by omega,z]
     rcases Nat.lt_or_ge i n with y|y
     ·exact h.eqs i (by omega) y
     ·have:i=n:=by omega
      rw[this,z]⟩ (by omega)
    exact⟨a1,a2,by omega⟩
noncomputable def Good(p:Array Nat)(nrem:Nat)(r:Nat×Array Nat):Prop:=1<=r.1/\r.1<=nrem/\pL key r.2 r.1/\r.2.Perm p
theorem tail3{p:Array Nat}{n nrem:Nat}(h1:1<=n)(hn:n<=nrem)(hz:nrem<=p.size)(hf:vk key p n):Good (key:=key) p nrem (run (F key) (kas_tail3 n nrem p)):=by
 unfold kas_tail3;rw[cH];obtain⟨a1,a2,a3,-⟩:=asc (key:=key) (kas_rev p 0 n) (nrem-n) n;refine⟨by show 1<=run (F key) (kas_asc (kas_rev p 0 n) (nrem-n) n);omega,by show run (F key) (kas_asc (kas_rev p 0 n) (nrem-n) n)<=nrem;omega,fun i hi=> ?_,Cn _ _ _ _⟩;show K key (kas_rev p 0 n) i<=K key (kas_rev p 0 n) (i+1);have hi:i+1<run (F key) (kas_asc (kas_rev p 0 n) (nrem-n) n):=hi
 rcases Nat.lt_or_ge (i+1) n with y|y
 ·rw[tJ (by omega),tJ (by omega),BK (by omega),BK (by omega)]
  exact hf.mono (by omega) (by omega)
 ·have:=a3 (i+1) y hi
  rwa [show i+1-1=i by omega]at this
theorem descPart{p:Array Nat}{n nrem:Nat}(h1:1<=n)(hn:n+1<=nrem)(hz:nrem<=p.size)(hf:vk key p (n+1)):Good (key:=key) p nrem (run (F key) (kas_descPart n nrem p)):=by
 unfold kas_descPart;rw[cH];obtain⟨d,pm,le⟩:=vO (key:=key) (nrem-(n+1)) p (n+1) 0 ⟨by omega,by omega,hf,fun i i1 i2=>by
  have:i=n+1-1:=by omega
  rw[this]⟩ (by omega)
 generalize run (F key) (kas_desc (nrem-(n+1)) p (n+1) 0)=r at d pm le
 obtain⟨p',n',q'⟩:=r;dsimp only at d pm le ⊢;have h1' :=d.one;have hz' :p'.size=p.size:=pm.size_eq
 split
 ·have kk:=gl (key:=key) (i:=n' -(q' +1)) d.sz d.eqs
  obtain⟨b1,b2,b3,b4⟩:=tail3 (key:=key) (p:=kas_rev p' (n' -(q' +1)) n') (n:=n') (nrem:=nrem) (by omega) (by omega) (by rw[di];omega) (fun i hi=>by rw[kk,kk];exact d.fal i hi);exact⟨b1,b2,b3,(b4.trans (Cn _ _ _ _)).trans pm⟩
 ·obtain⟨b1,b2,b3,b4⟩:=tail3 (key:=key) (p:=p') (n:=n') (nrem:=nrem) (by omega) (by omega) (by omega) d.fal
  exact⟨b1,b2,b3,b4.trans pm⟩
theorem count{p:Array Nat}{nrem:Nat}(h1:1<=nrem)(hz:nrem<=p.size):Good (key:=key) p nrem (run (F key) (kas_count nrem p)):=by
 unfold kas_count;rw[cH];obtain⟨a1,a2,a3,a4⟩:=asc (key:=key) p (nrem-1) 1
 generalize run (F key) (kas_asc p (nrem-1) 1)=n at a1 a2 a3 a4
 have srt:pL key p n:=fun i hi=>by
  have:=a3 (i+1) (by omega) hi
  rwa [show i+1-1=i by omega]at this
 by_cases e:n=nrem
 ·rw[BK (by simpa using e)]
  exact⟨a1,by show n<=nrem;omega,srt,C2 _⟩
 ·rw[BI (by simpa using e)]
  have lt:=a4 (by omega)
  by_cases h:n>1
  ·rw[BK h]
   show Good p nrem (run (F key) (if F key (p.getD 0 0) (p.getD (n-1) 0)=true then .ret (n,p)else kas_descPart n nrem (kas_rev p 0 n)))
   by_cases c:K key p 0<K key p (n-1)
   ·rw[BK (show F key (p.getD 0 0) (p.getD (n-1) 0)=true by simpa [F,K]using c)]
    exact⟨a1,by show n<=nrem;omega,srt,C2 _⟩
   ·rw[BI (show¬F key (p.getD 0 0) (p.getD (n-1) 0)=true by simpa [F,K]using c)]
    have alike:∀x,0<=x->x<n->K key p x=K key p (n-1):=fun x _ hx=>by
     have y1:=srt.mono (show 0<=x by omega) hx;have y2:=srt.mono (show x<=n-1 by omega) (by omega);omega
    have kk:=gl (key:=key) (i:=0) (j:=n) (by omega) alike;obtain⟨b1,b2,b3,b4⟩:=descPart (key:=key) (p:=kas_rev p 0 n) (n:=n) (nrem:=nrem) a1 (by omega) (by rw[di];omega) (fun i hi=>by
     rw[kk,kk]
     rcases Nat.lt_or_ge (i+1) n with y|y
     ·rw[alike (i+1) (by omega) y,alike i (by omega) (by omega)]
      exact Int.le_refl _
     ·have:i=n-1:=by omega
      subst this;rw[show n-1+1=n by omega];omega)
    exact⟨b1,b2,b3,b4.trans (Cn _ _ _ _)⟩
  ·rw[BI h]
   have:n=1:=by omega
   subst this;exact descPart (key:=key) (by omega) (by omega) hz (fun i hi=>by
    have:i=0:=by omega
    subst this;have lt:K key p (0+1)<K key p 0:=lt;exact Int.le_of_lt lt)
theorem ml{p:Array Nat}{n:Nat}(hs:pL key p n):∀(k l r:Nat),l<=r->r<=n->r-l<=k->(∀i,i<l->K key p i<=K key p n)->(∀i,r<=i->i<n->K key p n<K key p i) ->
  run (F key) (kas_place p n k l r)<=n/\(∀i,i<run (F key) (kas_place p n k l r)->K key p i<=K key p n)/\∀i,run (F key) (kas_place p n k l r)<=i->i<n->K key p n<K key p i
 | 0,l,r,lr,rn,hk,h1,h2=>by
  have:l=r:=by omega
  subst this;exact⟨rn,h1,h2⟩
 | k+1,l,r,lr,rn,hk,h1,h2=>by
  unfold kas_place
  by_cases e:l ≥ r
  ·have:l=r:=by omega
   subst this;rw[BK e];exact⟨rn,h1,h2⟩
  ·rw[BI e]
   have hm:(l+r)/2<r:=by omega
   have hm2:l<=(l+r)/2:=by omega
   show run (F key) (if F key (p.getD n 0) (p.getD ((l+r)/2) 0)=true then kas_place p n k l ((l+r)/2)else kas_place p n k ((l+r)/2+1) r)<=n/\_;show(fun t=>run (F key) t<=n/\(∀i,i<run (F key) t->K key p i<=K key p n)/\∀i,run (F key) t<=i->i<n->K key p n<K key p i) (if F key (p.getD n 0) (p.getD ((l+r)/2) 0)=true then kas_place p n k l ((l+r)/2)else kas_place p n k ((l+r)/2+1) r)
   by_cases c:K key p n<K key p ((l+r)/2)
   ·rw[BK (show F key (p.getD n 0) (p.getD ((l+r)/2) 0)=true by simpa [F,K]using c)]
    refine ml hs k l ((l+r)/2) hm2 (by omega) (by omega) h1 fun i i1 i2=> ?_;exact Int.lt_of_lt_of_le c (hs.mono i1 i2)
   ·rw[BI (show¬F key (p.getD n 0) (p.getD ((l+r)/2) 0)=true by simpa [F,K]using c)]
    refine ml hs k ((l+r)/2+1) r (by omega) rn (by omega) (fun i hi=> ?_) h2;exact Int.le_trans (hs.mono (show i<=(l+r)/2 by omega) (by omega)) (by omega)
theorem Ax{p:Array Nat}{n L:Nat}(hn:n<p.size)(hL:L<=n)(x:Nat):K key (bubble p n (n-L)) x=if x=L then K key p n else if L<x/\x<=n then K key p (x-1)else K key p x:=by
 unfold K;rw[Bt,getElem?_bubble hn _ (by omega),show n-(n-L)=L by omega];rw[Bt (i:=n),Bt (i:=x-1),Bt (i:=x)]
 split
 ·rfl
 ·split
  ·rfl
  ·rfl
theorem bin:∀(k:Nat)(p:Array Nat)(n:Nat),n+k<=p.size->pL key p n->pL key (run (F key) (kas_bin k p n)) (n+k)/\(run (F key) (kas_bin k p n)).Perm p
 | 0,p,n,_,h=>⟨h,C2 _⟩
 | k+1,p,n,hk,h=>by
  unfold kas_bin;rw[cH];obtain⟨b1,b2,b3⟩:=ml (key:=key) h n 0 n (by omega) (by omega) (by omega) (fun i hi=>by omega) (fun i i1 i2=>by omega)
  generalize run (F key) (kas_place p n n 0 n)=L at b1 b2 b3
  have kb:=Ax (key:=key) (p:=p) (n:=n) (L:=L) (by omega) b1;have hs:pL key (bubble p n (n-L)) (n+1):=fun i hi=>by
   rw[kb,kb]
   by_cases e1:i=L
   ·rw[BK e1,BI (by omega),BK (by omega)]
    have:=b3 (i+1-1) (by omega) (by omega);omega
   ·rw[BI e1]
    by_cases e2:i+1=L
    ·rw[BK e2,BI (by omega)]
     exact b2 i (by omega)
    ·rw[BI e2]
     by_cases e3:L<i/\i<=n
     ·rw[BK e3,BK (by omega)]
      exact h.mono (by omega) (by omega)
     ·rw[BI e3,BI (by omega)]
      exact h.mono (by omega) (by omega)
  obtain⟨c1,c2⟩:=bin k (bubble p n (n-L)) (n+1) (by rw[bubble_size];omega) hs;exact⟨by rw[show n+(k+1)=n+1+k by omega];exact c1,c2.trans (bubble_perm _ _ _)⟩
theorem sort{n:Nat}(h:1<=n):(run (F key) (kas_sort n)).toList.Perm (List.range n)/\((run (F key) (kas_sort n)).toList.map key).Pairwise (·<=·):=by
 have core:(run (F key) (kas_sort n)).Perm (List.toArray (List.range n))/\pL key (run (F key) (kas_sort n)) n:=by
  unfold kas_sort;rw[cH];obtain⟨a1,a2,a3,a4⟩:=count (key:=key) (p:=List.toArray (List.range n)) h (by simp)
  generalize run (F key) (kas_count n (List.toArray (List.range n)))=r at a1 a2 a3 a4
  have hz:r.2.size=n:=by rw[a4.size_eq];simp
  split
  ·have:max r.1 1=r.1:=by omega
   rw[this];obtain⟨b1,b2⟩:=bin (key:=key) (n-r.1) r.2 r.1 (by omega) a3;exact⟨b2.trans a4,by rw[show n=r.1+(n-r.1)by omega];rw[show r.1+(n-r.1)-r.1=n-r.1 by omega];exact b1⟩
  ·have:r.1=n:=by omega
   exact⟨a4,by rw[<- this];exact a3⟩
 obtain⟨c1,c2⟩:=core;have pm:=Array.perm_iff_toList_perm.mp c1;refine⟨by simpa using pm,?_⟩
 generalize run (F key) (kas_sort n)=p at c1 c2 pm
 have hl:p.toList.length=n:=by rw[pm.length_eq];simp
 rw[List.pairwise_iff_getElem];intro i j hi hj hij;rw[BJ]at hi hj;rw[List.getElem_map,List.getElem_map];have:=c2.mono (show i<=j by omega) (by omega);unfold K at this;rw[Br]at hi hj
 simpa [Array.getD,hi,hj]using this
end
end SW
namespace SW
open PySem PySem.W PyProof.Rows
noncomputable def Ok{α:Type}(n:Nat)(P:α->Prop):KasT α->Prop
 | .ret a=>P a
 | .ask i j k=>i<n/\j<n/\∀b,Ok n P (k b)
theorem Ok.bind{α β:Type}{n:Nat}{P:α->Prop}{R:β->Prop}{g:α->KasT β}(hg:∀a,P a->Ok n R (g a)):∀{t:KasT α},Ok n P t->Ok n R (t.bind g)
 | .ret a,h=>hg a h
 | .ask i j k,h=>⟨h.1,h.2.1,fun b=>Ok.bind hg (h.2.2 b)⟩
theorem Ok.wp{α:Type}{n:Nat}{P:α->Prop}{cmp:Nat->Nat->(Bool->Shared->Prop)->Shared->Prop}{f:Nat->Nat->Bool}{Q:α->Shared->Prop}{s:Shared}(hc:∀i j C,i<n->j<n->C (f i j) s->cmp i j C s) :
  ∀{t:KasT α},Ok n P t->Q (run f t) s->t.kasWp cmp Q s
 | .ret a,_,h=>h
 | .ask i j k,o,h=>hc i j _ o.1 o.2.1 (Ok.wp hc (o.2.2 _) h)
noncomputable def B(n:Nat)(p:Array Nat):Prop:=∀x,p.getD x 0<n
theorem B.perm{n:Nat}{p p' :Array Nat}(hn:0<n)(h:B n p)(pm:p'.Perm p):B n p' :=fun x=>by
 by_cases hx:x<p'.size
 ·have e:p'.getD x 0=p'[x]:=by simp[Array.getD,hx]
  have hm:p'[x]∈p'.toList:=Array.getElem_mem_toList hx;have hm:=(Array.perm_iff_toList_perm.mp pm).mem_iff.mp hm;obtain⟨i,hi,z⟩:=List.getElem_of_mem hm;have:=h i;rw[Br]at hi;rw[e,<-z]
  simpa [Array.getD,hi]using this
 ·have e:p'.getD x 0=0:=by simp[Array.getD,hx]
  rw[e];exact hn
section
variable{n:Nat}(hn:0<n)
include hn
theorem lV{p:Array Nat}(h:B n p):∀k m,Ok n (fun _=>True) (kas_asc p k m)
 | 0,_=>trivial
 | k+1,m=>⟨h _,h _,fun b=>by cases b<;>first|exact trivial|exact lV h k (m+1)⟩
theorem fc:∀(k:Nat)(p:Array Nat)(m q:Nat),B n p->Ok n (fun r=>B n r.1) (kas_desc k p m q)
 | 0,p,_,_,h=>h
 | k+1,p,m,q,h=>⟨h _,h _,fun b=>by
  cases b with
  | true =>
   show Ok n _ (if q>0 then kas_desc k (kas_rev p (m-(q+1)) m) (m+1) 0 else kas_desc k p (m+1) 0)
   split
   ·exact fc k _ _ _ (h.perm hn (Cn _ _ _ _))
   ·exact fc k _ _ _ h
  | false=>exact⟨h _,h _,fun b=>by
    cases b
    ·exact fc k p (m+1) (q+1) h
    ·exact h⟩⟩
theorem kA{p:Array Nat}{m r:Nat}(h:B n p):Ok n (fun r=>B n r.2) (kas_tail3 m r p):=by
 unfold kas_tail3;refine Ok.bind (P:=fun _=>True) (fun _ _=> ?_) (lV hn (h.perm hn (Cn _ _ _ _)) _ _);exact h.perm hn (Cn _ _ _ _)
theorem ek{p:Array Nat}{m r:Nat}(h:B n p):Ok n (fun r=>B n r.2) (kas_descPart m r p):=by
 unfold kas_descPart;refine Ok.bind (P:=fun r=>B n r.1) (fun a ha=> ?_) (fc hn _ _ _ _ h)
 split
 ·exact kA hn (ha.perm hn (Cn _ _ _ _))
 ·exact kA hn ha
theorem qz{p:Array Nat}{r:Nat}(h:B n p):Ok n (fun r=>B n r.2) (kas_count r p):=by
 unfold kas_count;refine Ok.bind (P:=fun _=>True) (fun a _=> ?_) (lV hn h _ _)
 split
 ·exact h
 ·split
  ·exact⟨h _,h _,fun b=>by
    cases b
    ·exact ek hn (h.perm hn (Cn _ _ _ _))
    ·exact h⟩
  ·exact ek hn h
theorem gJ{p:Array Nat}{m:Nat}(h:B n p):∀k l r,Ok n (fun _=>True) (kas_place p m k l r)
 | 0,_,_=>trivial
 | k+1,l,r=>by
  unfold kas_place
  split
  ·exact trivial
  ·exact⟨h _,h _,fun b=>by
    cases b
    ·exact gJ h k _ _
    ·exact gJ h k _ _⟩
theorem rA:∀(k:Nat)(p:Array Nat)(m:Nat),B n p->Ok n (fun p=>B n p) (kas_bin k p m)
 | 0,_,_,h=>h
 | k+1,p,m,h=>Ok.bind (fun l _=>rA k _ _ (h.perm hn (bubble_perm _ _ _))) (gJ hn h _ _ _)
theorem uh:Ok n (fun p=>B n p) (kas_sort n):=by
 have h0:B n (List.toArray (List.range n)):=fun x=>by
  by_cases hx:x<n
  ·have:(List.toArray (List.range n)).getD x 0=x:=by simp[Array.getD,hx]
   omega
  ·have:(List.toArray (List.range n)).getD x 0=0:=by simp[Array.getD,hx]
   omega
 unfold kas_sort;refine Ok.bind (P:=fun r=>B n r.2) (fun r hr=> ?_) (qz hn h0)
 split
 ·exact rA hn _ _ _ hr
 ·exact hr
end
section
variable{prog:Program}{w:World}{A:Around}{E:Value->Shared->Prop}{s:Shared}
noncomputable def my(key:Nat->Int)(vs:List Value):List Value:=(run (F key) (kas_sort vs.length)).toList.map fun i=>vs.getD i Value.none
theorem uc{key:Nat->Int}{vs:List Value}(h:1<=vs.length):(my key vs).length=vs.length:=by
 unfold my;rw[BJ,(sort (key:=key) h).1.length_eq,DI]
theorem uu{a:Addr}{vs:List Value}{n:Nat}{κ:SortKind}{key:Nat->Int}{P:PySem.Fin->Shared->Prop}(ho:s.heap.get? a=some (seqObj "list" vs.toArray n))(h2:2<=vs.length)(h64:vs.length<64)
  (hk:∀(s1:Shared)(Q:SortKind->Shared->Prop),(∀b o,b≠a->s.heap.get? b=some o->s1.heap.get? b=some o)->Q κ s1->wpAny (model prog w) A (keyKind' vs.toArray) Q E s1)
  (hc:∀(s1:Shared) i j C,(∀b o,b≠a->s.heap.get? b=some o->s1.heap.get? b=some o)->i<vs.length->j<vs.length->C (F key i j) s1->kas_ask prog w A κ vs i j C s1)
  (h:P (.done (.ret .none)) {s with heap:=sortedHeap s.heap a vs (my key vs).toArray}) :
  wpAny (model prog w) A (Builtin.«list.sort» ⟨[.ref a],[]⟩) P E s:=by
 have ha:a<s.heap.objs.size:=BE ho;rw[list_sort_plain];refine A8 (listItems_at ho rfl (A8 (listUpdate_at ho rfl ?_ (by rw[BH,Bw];omega) (Be _))));obtain⟨e1,g1⟩:∃e1,(s.heap.update a (Obj.mapSeq fun _=>(#[]:Array Value))).get? a=some (seqObj "list" #[] e1):=⟨_,get?_update_seq ho fun _=> #[]⟩;refine A8 (seqEpoch_at g1 rfl (A8 (wpAny_newTuple ?_ (by show vs.length<=_;rw[Bw];omega))));refine A8 (wpAny_newList ?_ (Be _));refine B2 ?_;have g2:(((s.heap.update a (Obj.mapSeq fun _=>(#[]:Array Value))).push (seqObj "tuple" vs.toArray 0)).push (seqObj "list" #[] 0)).get? a=some (seqObj "list" #[] e1):=BA _ (BA _ g1)
 have old:∀b o,b≠a->s.heap.get? b=some o->(((s.heap.update a (Obj.mapSeq fun _=>(#[]:Array Value))).push (seqObj "tuple" vs.toArray 0)).push (seqObj "list" #[] 0)).get? b=some o:=fun b o nb e =>
  BA _ (BA _ (by rw[By _ _ (CQ nb)];exact e))
 show wpAny (model prog w) A _ P E {s with heap:=((s.heap.update a (Obj.mapSeq fun _=>(#[]:Array Value))).push (seqObj "tuple" vs.toArray 0)).push (seqObj "list" #[] 0)};dsimp only;have n2:¬vs.toArray.size<2:=by rw[BH];omega
 rw[BI n2,BI n2];refine A8 (hk _ _ old ?_)
 refine A8 (B5 (kat_run (Q:=fun st' s' =>∃p:Array Nat,p=run (F key) (kas_sort vs.length)/\s' ={s with heap:=((s.heap.update a (Obj.mapSeq fun _=>(#[]:Array Value))).push (seqObj "tuple" vs.toArray 0)).push (seqObj "list" #[] 0)}/\arrOf st' =p.map (kas_item (vs.toArray.zip vs.toArray))/\failedOf st' =none)
  (G:=fun p s' =>p=run (F key) (kas_sort vs.length)/\s' ={s with heap:=((s.heap.update a (Obj.mapSeq fun _=>(#[]:Array Value))).push (seqObj "tuple" vs.toArray 0)).push (seqObj "list" #[] 0)})
  rfl h2 h64 (fun p' st' s' _ a2 a3 a4=>⟨p',a4.1,a4.2,a2,a3⟩) ((uh (by omega)).wp (fun i j C hi hj q=>hc _ i j C old hi hj q) ⟨rfl,rfl⟩)) ?_ fun _ _ e=>e)
 rintro⟨⟨⟩,st'⟩ s' ⟨p,rfl,rfl,har,hf⟩;dsimp only;have hout:(arrOf st').map (·.2)=(my key vs).toArray:=kat_snds rfl har;rw[hout];refine A8 (seqEpoch_at g2 rfl ?_);refine A8 (listUpdate_at g2 rfl ?_ (Be _) (by rw[BH,uc (by omega),Bw];omega));rw[hf];simp only[bne_self_eq_false,Bool.false_eq_true,C8];exact BG h
end
end SW
set_option maxHeartbeats 400000
namespace SW
open PySem PySem.W PyProof.Rows
noncomputable def b8(h:Heap)(v:Value)(q:Int×Int):Prop:=∃a t u,v=.ref a/\IsTup h a #[.int q.1 t,.int q.2 u]
theorem b8.keep{h h' :Heap}{v:Value}{q:Int×Int}(x:b8 h v q)(k:∀b o,h.get? b=some o->h'.get? b=some o):b8 h' v q:=by
 obtain⟨a,t,u,e,z⟩:=x;exact⟨a,t,u,e,z.keeps k⟩
noncomputable def cI(q:Int×Int):Int:=1000*q.1+q.2
section
variable{prog:Program}{w:World}{A:Around}{E:Value->Shared->Prop}{s:Shared}
theorem ur{x y:Value}{p q:Int×Int}{C:Bool->Shared->Prop}(hx:b8 s.heap x p)(hy:b8 s.heap y q)(bp:0<=p.2/\p.2<1000)(bq:0<=q.2/\q.2<1000)(h:C (decide (cI p<cI q)) s):wpAny (model prog w) A (keyLt' (tuples' true) x y) C E s:=by
 obtain⟨a,t,u,rfl,o,ho,-,n,hd⟩:=hx;obtain⟨b,t',u',rfl,o',ho',-,n',hd'⟩:=hy;refine kat_lt ho hd ho' hd' ?_;unfold cI at h;refine kat_cons (wpAny_eqBool_int (kat_go (fun e=>kat_yes (kat_cons (wpAny_eqBool_int (kat_go (fun e2=>kat_yes (kat_nil ?_)) fun e2=>kat_no (kat_one _ _ (lt_int ?_)))))) fun e=>kat_no (oneLt_int ?_)))
 ·have e:=B7.mp e
  have e2:=B7.mp e2;rw[show decide (1000*p.1+p.2<1000*q.1+q.2)=false from Bh (by omega)]at h;exact h
 ·have e:=B7.mp e
  show C (decide (p.2<q.2)) s;rw[show decide (1000*p.1+p.2<1000*q.1+q.2)=decide (p.2<q.2)from CY.mpr (by omega)]at h;exact h
 ·have e:p.1≠q.1:=fun z=>by rw[z]at e;simp at e
  rw[show decide (1000*p.1+p.2<1000*q.1+q.2)=decide (p.1<q.1)from CY.mpr (by omega)]at h;exact h
theorem lf{vs:List Value}{ps:List (Int×Int)}{Q:SortKind->Shared->Prop}(h1:1<=vs.length)(hp:Paired (b8 s.heap) vs ps)(h:Q (tuples' true) s):wpAny (model prog w) A (keyKind' vs.toArray) Q E s:=by
 obtain⟨fs,hf,hl,hi⟩:∃fs,KatTups s.heap vs fs/\fs.length=vs.length/\∀v∈fs,∃i t,v=.int i t:=by
  clear h1 h
  induction hp with
  | nil=>exact⟨[],.nil,rfl,fun v hv=>by cases hv⟩
  | cons r _ ih =>
   obtain⟨fs,a1,a2,a3⟩:=ih;obtain⟨a,t,u,rfl,o,ho,hc,n,hd⟩:=r;refine⟨_,KatTups.cons ho hc hd rfl a1,by simp[a2],fun v hv=> ?_⟩
   rcases BP.mp hv with z|z
   ·exact⟨_,_,z⟩
   ·exact a3 v z
 refine kat_kind (T:=.type "int") hf (by omega) (fun v hv=> ?_) (by decide) h;obtain⟨i,t,rfl⟩:=hi v hv;exact .now
theorem nz:∀{vs:List Value},vs.length<2->(vs.toArray.zip vs.toArray).map (·.2)=vs.toArray
 | [],_=>by simp
 | [_],_=>by simp
 | _::_::_,h=>absurd h (by simp)
theorem lK:∀{vs:List Value},vs.length<2->(List.range vs.length).map (fun i=>vs.getD i Value.none)=vs
 | [],_=>rfl
 | [_],_=>rfl
 | _::_::_,h=>absurd h (by simp)
theorem qC{f:Nat->Int}:∀{n:Nat},n<2->((List.range n).map f).Pairwise (·<=·)
 | 0,_=>.nil
 | 1,_=>by show([f 0]:List Int).Pairwise (·<=·);exact List.pairwise_singleton _ _
 | _+2,h=>absurd h (by omega)
theorem kH{a:Addr}{vs:List Value}{n:Nat}{P:PySem.Fin->Shared->Prop}(ho:s.heap.get? a=some (seqObj "list" vs.toArray n))(h2:vs.length<2)
  (h:P (.done (.ret .none)) {s with heap:=sortedHeap s.heap a vs vs.toArray}):wpAny (model prog w) A (Builtin.«list.sort» ⟨[.ref a],[]⟩) P E s:=by
 rw[list_sort_plain];refine A8 (listItems_at ho rfl (A8 (listUpdate_at ho rfl ?_ (by rw[BH,Bw];omega) (Be _))));obtain⟨e1,g1⟩:∃e1,(s.heap.update a (Obj.mapSeq fun _=>(#[]:Array Value))).get? a=some (seqObj "list" #[] e1):=⟨_,get?_update_seq ho fun _=> #[]⟩;refine A8 (seqEpoch_at g1 rfl (A8 (wpAny_newTuple ?_ (by show vs.length<=_;rw[Bw];omega))));refine A8 (wpAny_newList ?_ (Be _));refine B2 ?_;have g2:(((s.heap.update a (Obj.mapSeq fun _=>(#[]:Array Value))).push (seqObj "tuple" vs.toArray 0)).push (seqObj "list" #[] 0)).get? a=some (seqObj "list" #[] e1):=BA _ (BA _ g1);show wpAny (model prog w) A _ P E {s with heap:=((s.heap.update a (Obj.mapSeq fun _=>(#[]:Array Value))).push (seqObj "tuple" vs.toArray 0)).push (seqObj "list" #[] 0)};dsimp only;have n2:vs.toArray.size<2:=by rw[BH];exact h2
 rw[BK n2,BK n2];refine A8 (BG ?_);rw[StateT.run_pure];refine A8 (BG ?_);dsimp only;have hout:(arrOf (SortSt.mk' general' (vs.toArray.zip vs.toArray) #[] 7 none)).map (·.2)=vs.toArray:=by
  exact nz h2
 rw[hout];refine A8 (seqEpoch_at g2 rfl ?_);refine A8 (listUpdate_at g2 rfl ?_ (Be _) (by rw[BH,Bw];omega));simp only[bne_self_eq_false,Bool.false_eq_true,C8];exact BG h
theorem eJ{F:Value->Int×Int->Prop}:∀{vs:List Value}{ps:List (Int×Int)},Paired F vs ps->∀i,i<vs.length->F (vs.getD i Value.none) (ps.getD i (0,0))/\ps.getD i (0,0)∈ps
 | _,_,.cons r _,0,_=>⟨r,BN⟩
 | _,_,.cons _ t,i+1,h=>by
  have:=eJ t i (by simpa using h);exact⟨this.1,BF _ this.2⟩
theorem iV{l:Addr}{vs:List Value}{ps:List (Int×Int)}{Q:Value->Shared->Prop}(hl:s.heap.IsList l vs.toArray)(hp:Paired (b8 s.heap) vs ps)(hb:∀q∈ps,0<=q.2/\q.2<1000)(h64:vs.length<64)
  (h:∀js:List Nat,js.Perm (List.range vs.length)->(js.map fun i=>cI (ps.getD i (0,0))).Pairwise (·<=·)->Q (.ref (s.heap.objs.size+1)) {s with heap:=sortedAll s.heap vs (js.map fun i=>vs.getD i Value.none).toArray}) :
  wpAny (model prog w) A (call (.builtin "sorted") [.ref l]) Q E s:=by
 refine Calls.call_function_entry kind_sorted plain_sorted entry_sorted (args_sorted1 _) ?_;unfold Builtin.«sorted»;refine A8 (m:=checkCount "sorted" 1 1 _) (BG ?_);refine A8 (collect_list hl ?_ (by rw[Bw];omega));refine A8 (wpAny_newList ?_ (by rw[Bw];omega));have hsz:((s.heap.push (seqObj "list" #[] 0)).update s.heap.objs.size (Obj.mapSeq (·++vs.toArray))).objs.size=s.heap.objs.size+1:=by rw[Heap.size_update,size_push']
 have hoL:(((s.heap.push (seqObj "list" #[] 0)).update s.heap.objs.size (Obj.mapSeq (·++vs.toArray))).push (seqObj "list" vs.toArray 0)).get? (s.heap.objs.size+1)=some (seqObj "list" vs.toArray 0):=by
  rw[<- hsz];exact BR _ rfl
 have keep:∀b o,s.heap.get? b=some o->(((s.heap.push (seqObj "list" #[] 0)).update s.heap.objs.size (Obj.mapSeq (·++vs.toArray))).push (seqObj "list" vs.toArray 0)).get? b=some o:=fun b o e=>by
  have lt:b<s.heap.objs.size:=BE e;refine BA _ ?_;rw[By _ _ (C7 lt)];exact BA _ e
 show wpAny _ _ _ _ _ {s with heap:=((s.heap.push (seqObj "list" #[] 0)).update s.heap.objs.size (Obj.mapSeq (·++vs.toArray))).push (seqObj "list" vs.toArray 0)};rw[hsz]
 by_cases h2:vs.length<2
 ·refine A8 (B2 (wpAny_call_entry slot_list_sort ⟨_,hoL,rfl⟩ entry_list_sort (kH hoL h2 ⟨_,rfl,?_⟩) (args_list_sort _)))
  have q:=h (List.range vs.length) (List.Perm.refl _) (qC h2);rw[lK h2]at q;exact BG ⟨_,rfl,q⟩
 ·have hp2:∀s1:Shared,(∀b o,b≠s.heap.objs.size+1->(((s.heap.push (seqObj "list" #[] 0)).update s.heap.objs.size (Obj.mapSeq (·++vs.toArray))).push (seqObj "list" vs.toArray 0)).get? b=some o->s1.heap.get? b=some o)->∀{v:Value}{q:Int×Int},b8 s.heap v q->b8 s1.heap v q:=fun s1 k v q x =>
   x.keep fun b o e=>k b o (BX (Nat.lt_succ_of_lt (BE e))) (keep b o e)
  refine A8 (B2 (wpAny_call_entry slot_list_sort ⟨_,hoL,rfl⟩ entry_list_sort (uu (κ:=tuples' true) (key:=fun i=>cI (ps.getD i (0,0))) hoL (by omega) h64 (fun s1 Q1 k q1=> ?_) (fun s1 i j C k hi hj c=> ?_) ⟨_,rfl,?_⟩) (args_list_sort _)))
  ·exact lf (ps:=ps) (by omega) (L2.Paired.mapP hp fun _ _ x=>hp2 s1 k x) q1
  ·obtain⟨x1,m1⟩:=eJ hp i hi
   obtain⟨x2,m2⟩:=eJ hp j hj;exact ur (hp2 s1 k x1) (hp2 s1 k x2) (hb _ m1) (hb _ m2) c
  ·obtain⟨z1,z2⟩:=sort (key:=fun i=>cI (ps.getD i (0,0))) (n:=vs.length) (by omega)
   exact BG ⟨_,rfl,h _ z1 z2⟩
end
end SW
namespace L2
open PySem PySem.Spec PyProof.Rows
inductive yn(K:W.Frag)(H:Hp):List V->List (Int×Int)->Prop
 | nil:yn K H [] []
 | cons {a:Addr} {q:Int×Int} {us:List V} {ps:List (Int×Int)} (h:bI K H a [.int q.1,.int q.2]) (t:yn K H us ps):yn K H (.ref a::us) (q::ps)
theorem yn.len{K:W.Frag}{H:Hp}{us:List V}{ps:List (Int×Int)}(h:yn K H us ps):us.length=ps.length:=by
 induction h with
 | nil=>rfl
 | cons _ _ ih=>simp[ih]
theorem aI.pick{us:List V}{vs:List Value}(r:aI us vs):∀{js:List Nat},(∀j∈js,j<us.length)->aI (js.map fun i=>us.getD i .non) (js.map fun i=>vs.getD i Value.none)
 | [],_=>.nil
 | j::js,h=>by
  have hj:=h j BN;obtain⟨v,hv,rv⟩:=r.get (i:=j) (x:=us[j]) (BU hj);refine .cons ?_ (aI.pick r fun i hi=>h i (BF _ hi));dsimp only;rw[Bj,BU hj,Bj,hv];exact rv
section
variable{X:Cx}
theorem eC:ay X (.builtin "sorted") (fun xs H Q=>∃(p:Addr)(us:List V)(ps:List (Int×Int)),xs=[.ref p]/\aj X.K H p us/\yn X.K H us ps/\us.length<64/\(∀q∈ps,0<=q.2/\q.2<1000) /\
  ∀a (js:List Nat),H a=none->js.Perm (List.range us.length)->(js.map fun i=>SW.cI (ps.getD i (0,0))).Pairwise (·<=·)->Q (.ref a) (upd H a (.lst (js.map fun i=>us.getD i .non)))):=by
 intro pins s σ H xs us Q I r h;obtain⟨p,ws,ps,rfl,hq,hp,h64,hb,q⟩:=h;obtain⟨u,rfl,rx⟩:=vals1 r;cases rx;obtain⟨its,r',pl,hz⟩:=I.list hq;have hlen:=r'.length;have pr:Paired (SW.b8 s.heap) its ps:=by
  clear q hb h64 hq pl hz hlen
  induction hp generalizing its with
  | nil =>
   cases r';exact .nil
  | cons ht _ ih =>
   cases r' with
   | cons rv t =>
    refine .cons ?_ (ih _ t);cases rv;obtain⟨ys,ry,tp,_⟩:=I.tuple ht;obtain⟨y1,y2,rfl,e1,e2⟩:=vals2 ry;obtain⟨t1,rfl⟩:=e1;obtain⟨t2,rfl⟩:=e2;exact⟨_,t1,t2,rfl,tp⟩
 refine SW.iV pl.isList pr hb (by omega) fun js pm pw=> ?_;obtain⟨c,hc⟩:=sortedAll_at s.heap its (js.map fun i=>its.getD i Value.none).toArray;rw[<- hlen]at pm;refine⟨.ref (s.heap.objs.size+1),_,I.laid (t' :=s.toks) (o:=.lst (js.map fun i=>ws.getD i .non)) (fun b o z=>sortedAll_old z) (Cu _) ?_,rfl,q _ js (I.hok.fresh (Cu _)) pm pw⟩;refine⟨?_,js.map fun i=>its.getD i Value.none,c,aI.pick r' fun j hj=>DC.mp (pm.mem_iff.mp hj),by simpa [seqObj]using hc⟩;rw[BJ,pm.length_eq,DI,Bw];omega
end
end L2
namespace SR
open PySem PyProof.Rows
section
variable{prog:Program}{w:World}{A:Around}{E:Value->Shared->Prop}{s:Shared}
end
end SR
set_option maxHeartbeats 800000
namespace SR
open PySem PyProof.Rows
noncomputable def tB(I t:Addr)(i:Int)(h:Heap):Prop:=∃o,h.get? I=some o/\o.cls=.type "reversed"/\o.data=.fields #[.ref t,rawInt i]
theorem tB.typeIs{I t:Addr}{i:Int}{s:Shared}(x:tB I t i s.heap):s.TypeIs (.ref I) "reversed":=let⟨o,ho,hc,_⟩:=x;⟨o,ho,hc⟩
theorem tB.keep{I t:Addr}{i:Int}{h h' :Heap}(x:tB I t i h)(k:∀o,h.get? I=some o->h'.get? I=some o):tB I t i h' :=let⟨o,ho,r⟩:=x;⟨o,k o ho,r⟩
section
variable{prog:Program}{w:World}{A:Around}{E:Value->Shared->Prop}{s:Shared}
end
end SR
namespace L2
open PySem PySem.Spec PyProof.Rows
section
variable{X:Cx}
end
end L2
set_option maxHeartbeats 4000000
namespace L2
open PySem PySem.Spec PyProof.Rows
section
variable{X:Cx}
end
end L2
namespace L2
open PySem PySem.Spec PyProof.Rows PySem.W
section
variable{X:Cx}
end
end L2
set_option genInjectivity false
namespace IR
open PySem
noncomputable abbrev aq:=L2.aq
inductive PV where
 | non|bl (b:Bool)|int (i:Int)|str (z:Str)|lst (xs:List PV)|tup (xs:List PV)|dK (ks:List aq) (vs:List PV)|dT (ks:List (List aq)) (vs:List PV)
instance:Inhabited PV:=⟨.non⟩
mutual
noncomputable def imm:PV->Bool
 | .non=>true| .bl _=>true| .int _=>true| .str _=>true
 | .lst _=>false
 | .tup xs=>imms xs
 | .dK _ _=>false| .dT _ _=>false
noncomputable def imms:List PV->Bool
 | []=>true
 | x::xs=>imm x&&imms xs
end
inductive Bf where
 | len|int|str|list|tuple|sorted|min|max|sum|abs|all|any|lrange|lrange2|isin (t:String)|sumv|sset|lset|trev|lvals
inductive Bm where
 | join|split|count|index|get|jrev
mutual
inductive IE where
 | con (v:PV)|var (i:Nat)|bin (op:Operator) (a b:IE)|neg (a:IE)|cmp (op:CmpOp) (a b:IE)|chn (o1 o2:CmpOp) (a b c:IE)
 | and (a b:IE)|or (a b:IE)|not (a:IE)|ite (c:IC) (a b:IE)
 | call (f:Nat) (es:fj)|bf (f:Bf) (es:fj)|mth (m:Bm) (o:IE) (es:fj)
 | lst (es:fj)|tup (es:fj)|dnew|dlit (k:aq) (e:IE)|ix (a i:IE)|sl (a:IE) (lo hi:IO)
 | lc (elt:IE) (src:IT) (ifs:A4) (caps:List Nat)|never
inductive fj where
 | nil|cons (e:IE) (es:fj)
inductive IO where
 | no|yes (e:IE)
inductive IC where
 | val (e:IE)|not (c:IC)|and (c d:IC)|or (c d:IC)
inductive A4 where
 | no|yes (c:IC)
inductive IT where
 | seq (e:IE)|rng (es:fj)|zip (a b:IE)|never
end
mutual
inductive IS where
 | asg (i:Nat) (o:Bool) (cap:List Nat) (e:IE)|ret (cap:List Nat) (e:IE)|retN|ife (c:IC) (a b:mQ)
 | forr (is:List Nat) (one:Bool) (cap:List Nat) (src:IT) (body:mQ)|whil (c:IC) (body:mQ)|pass|brk|cont
 | app (i:Nat) (cap:List Nat) (e:IE)|drop (e:IE)|hand (m:Nat) (g:List PV->Option PV)|rais (x:Str)|never
inductive mQ where
 | nil|cons (s:IS) (ss:mQ)
end
inductive Bd where
 | lst|dK (ks:List aq)|dT (ks:List (List aq))
noncomputable def Bd.pv:Bd->List PV->PV
 | .lst,xs=>.lst xs
 | .dK ks,xs=>.dK ks xs
 | .dT ks,xs=>.dT ks xs
section
variable{κ α:Type}[DecidableEq κ]
noncomputable def zM:List κ->List α->κ->Option α
 | k' ::ks,x::xs,k=>if k' =k then some x else zM ks xs k
 | _,_,_=>none
noncomputable def zn:List κ->List α->κ->α->List α
 | k' ::ks,x::xs,k,y=>(if k' =k then y else x)::zn ks xs k y
 | _,xs,_,_=>xs
noncomputable def putL(ks:List κ)(xs:List α)(k:κ)(y:α):List α:=if k∈ks then zn ks xs k y else xs++[y]
noncomputable def zz(ks:List κ)(k:κ):List κ:=if k∈ks then ks else ks++[k]
end
noncomputable def nK:PV->Option aq
 | .int i=>some (.inl i)
 | .str z=>some (.inr z)
 | _=>none
noncomputable def rO:List PV->Option (List aq)
 | []=>some []
 | x::xs=>(nK x).bind fun k=>(rO xs).map (k::·)
inductive TV where
 | un|frz (v:PV) (n:Bool)|own (xs:List PV) (n:Bool)|owd (b:Bd) (xs:List PV) (n:Bool)
noncomputable def TV.ob:TV->Option (Bd×List PV×Bool)
 | .own xs n=>some (.lst,xs,n)
 | .owd b xs n=>some (b,xs,n)
 | _=>none
noncomputable abbrev En:=List TV
noncomputable def TV.valD:TV->PV
 | .frz v _=>v
 | _=>.non
inductive RV where
 | frz (v:PV) (n:Bool)|bor (v:PV)|own (xs:List PV) (n:Bool)|owd (b:Bd) (xs:List PV) (n:Bool)
noncomputable def RV.val:RV->PV
 | .frz v _=>v
 | .bor v=>v
 | .own xs _=>.lst xs
 | .owd b xs _=>b.pv xs
noncomputable abbrev sc(v:PV):RV:=.frz v true
noncomputable def RV.keep:RV->Option (PV×Bool)
 | .frz v n=>some (v,n)
 | .bor v=>if imm v then some (v,true)else none
 | .own xs n=>some (.lst xs,n)
 | .owd b xs n=>some (b.pv xs,n)
noncomputable def kJ(v:PV):RV:=if imm v then .frz v true else .bor v
noncomputable def RV.its:RV->Option (List PV×Bool)
 | .frz (.lst xs) n=>some (xs,n)
 | .frz (.tup xs) n=>some (xs,n)
 | .own xs n=>some (xs,n)
 | .bor (.lst xs)=>if imms xs then some (xs,true)else none
 | .bor (.tup xs)=>if imms xs then some (xs,true)else none
 | _=>none
noncomputable abbrev LN:Nat:=16777216
open L2 (uz dN)
noncomputable def signs(z:Str):List PV:=z.cps.toList.map fun c=>.str ⟨#[c]⟩
noncomputable def kE(xs:List PV)(n:Bool):Option RV:=if xs.length<=LN then some (.own xs n)else none
noncomputable def kB(xs:List PV)(n:Bool):Option RV:=if xs.length<=LN then some (.frz (.tup xs) n)else none
noncomputable def mJ(a b:RV):Option RV :=
 match a.val,b.val with
 | .int i,.int j=>some (sc (.int (i+j)))
 | .str x,.str y=>if x.length+y.length<=LN then some (sc (.str (x++y)))else none
 | .lst _,.lst _=>match a.its,b.its with
  | some (xs,n),some (ys,m)=>kE (xs++ys) (n&&m)
  | _,_=>none
 | .tup _,.tup _=>match a.its,b.its with
  | some (xs,n),some (ys,m)=>kB (xs++ys) (n&&m)
  | _,_=>none
 | _,_=>none
noncomputable def mH(a b:RV):Option RV :=
 match a.val,b.val with
 | .int i,.int j=>some (sc (.int (i-j)))
 | _,_=>none
noncomputable def jP(a b:RV):Option RV :=
 match a.val,b.val with
 | .int i,.int j=>if(-(2^64)<i/\i<2^64)\/(-(2^64)<j/\j<2^64)then some (sc (.int (i*j)))else if i.natAbs<2^2000/\j.natAbs<2^2000 then some (sc (.int (i*j)))else none
 | .str z,.int k=>if 0<=k/\k<=1000/\z.length<=16 then some (sc (.str ⟨(List.replicate k.toNat z.cps.toList).flatten.toArray⟩))else none
 | _,_=>none
noncomputable def cu(a b:RV):Option RV :=
 match a.val,b.val with
 | .int i,.int j=>if 0<j/\j<2^200 then some (sc (.int (i/j)))else none
 | _,_=>none
noncomputable def mI(a b:RV):Option RV :=
 match a.val,b.val with
 | .int i,.int j=>if 0<j then some (sc (.int (i%j)))else none
 | _,_=>none
noncomputable def eV(a b:RV):Option RV :=
 match a.val,b.val with
 | .int i,.int j=>if 0<=j/\j<=1000000/\i.natAbs<2^64 then some (sc (.int (i*2^j.toNat)))else none
 | _,_=>none
noncomputable def cr(op:Operator)(a b:RV):Option RV:=match op with
 | .Add=>mJ a b
 | .Sub=>mH a b
 | .Mult=>jP a b
 | .FloorDiv=>cu a b
 | .Mod=>mI a b
 | .LShift=>eV a b
 | _=>none
noncomputable def ki:PV->Bool
 | .non=>true| .bl _=>true| .int _=>true| .str _=>true|_=>false
noncomputable def eqs:PV->PV->Option Bool
 | .int i,.int j=>some (decide (i=j))
 | .str i,.str j=>some (decide (i=j))
 | .bl i,.bl j=>some (decide (i=j))
 | .non,.non=>some true
 | .non,.int _=>some false| .non,.bl _=>some false| .non,.str _=>some false| .int _,.non=>some false| .bl _,.non=>some false| .str _,.non=>some false
 | .int _,.str _=>some false| .str _,.int _=>some false| .bl _,.str _=>some false| .str _,.bl _=>some false
 | _,_=>none
noncomputable def sE:PV->PV->Bool
 | .int i,.int j=>decide (i=j)
 | .str i,.str j=>decide (i=j)
 | .bl i,.bl j=>decide (i=j)
 | .bl b,.int j=>decide ((if b then 1 else 0:Int)=j)
 | .int j,.bl b=>decide (j=(if b then 1 else 0:Int))
 | .non,.non=>true
 | _,_=>false
mutual
noncomputable def gy:PV->PyData
 | .non=>.none
 | .bl b=>.bool b
 | .int i=>.int i
 | .str z=>.str z
 | .lst xs=>.list (bz xs)
 | .tup xs=>.tuple (bz xs)
 | .dK _ _=>.dict []
 | .dT _ _=>.dict []
noncomputable def bz:List PV->List PyData
 | []=>[]
 | x::xs=>gy x::bz xs
end
mutual
noncomputable def jV:PV->PV->Bool
 | .lst xs,.lst ys=>lw xs ys
 | .tup xs,.tup ys=>lw xs ys
 | a,b=>sE a b
noncomputable def lw:List PV->List PV->Bool
 | [],[]=>true
 | x::xs,y::ys=>jV x y&&lw xs ys
 | [],_::_=>false
 | _::_,[]=>false
end
noncomputable def fg:Nat->PV->Bool
 | _,.non=>true
 | _,.bl _=>true
 | _,.int _=>true
 | _,.str z=>PyData.strOk z
 | 0,.lst _=>false
 | 0,.tup _=>false
 | n+1,.lst xs=>xs.all (fg n)
 | n+1,.tup xs=>xs.all (fg n)
 | _,.dK _ _=>false
 | _,.dT _ _=>false
noncomputable def wH(x y:PV):Option Bool:=match eqs x y with
 | some b=>some b
 | none=>if fg 12 x&&fg 12 y then some (jV x y)else none
noncomputable def inq(x:PV)(ys:List PV):Option Bool :=
 if ki x/\ys.all ki then some (ys.any fun y=>sE y x)else if fg 12 x&&ys.all (fg 12)then some (ys.any fun y=>jV y x)else none
mutual
noncomputable def Al(f:Int->Int->Bool)(g:Nat->Nat->Bool):PV->PV->Option Bool
 | .int i,.int j=>some (f i j)
 | .tup xs,.tup ys=>vU f g xs ys
 | _,_=>none
noncomputable def vU(f:Int->Int->Bool)(g:Nat->Nat->Bool):List PV->List PV->Option Bool
 | [],ys=>some (g 0 ys.length)
 | _::_,[]=>some (g 1 0)
 | x::xs,y::ys=>if jV x y then vU f g xs ys else Al f g x y
end
noncomputable abbrev ltd:=Al (fun i j=>decide (i<j)) fun a b=>decide (a<b)
noncomputable def ltT(x y:PV):Option Bool:=if fg 12 x&&fg 12 y then ltd x y else none
noncomputable def sU(a b:PV):Option Bool :=
 match a,b with
 | .int i,.int j=>some (decide (i<j))
 | .tup xs,.tup ys=>ltT (.tup xs) (.tup ys)
 | _,_=>none
noncomputable def mB(a b:PV):Option Bool :=
 match a,b with
 | .int i,.int j=>some (decide (i<=j))
 | _,_=>none
noncomputable def sY(a b:PV):Option Bool :=
 match a,b with
 | .int i,.int j=>some (decide (j<i))
 | _,_=>none
noncomputable def mC(a b:PV):Option Bool :=
 match a,b with
 | .int i,.int j=>some (decide (j<=i))
 | _,_=>none
noncomputable def sW(a b:PV):Option Bool :=
 match a,b with
 | .non,.non=>some true
 | x,.non=>some false
 | _,_=>none
noncomputable def sX(a b:PV):Option Bool :=
 match a,b with
 | x,.tup ys=>inq x ys
 | _,_=>none
noncomputable def ar(op:CmpOp)(a b:PV):Option Bool:=match op with
 | .Lt=>sU a b
 | .LtE=>mB a b
 | .Gt=>sY a b
 | .GtE=>mC a b
 | .Eq=>wH a b
 | .NotEq=>(wH a b).map (!·)
 | .Is=>sW a b
 | .In=>sX a b
 | _=>none
noncomputable def jo:PV->Option Bool
 | .non=>some false
 | .bl b=>some b
 | .int i=>some (i !=0)
 | .str z=>if z.length<=LN then some ((z.length:Int) !=0)else none
 | .lst xs=>some !xs.isEmpty
 | .tup xs=>some !xs.isEmpty
 | .dK ks _=>some !ks.isEmpty
 | .dT _ _=>none
noncomputable def bJ:PV->Option Nat
 | .str z=>if z.length<=LN then some z.length else none
 | .lst xs=>some xs.length
 | .tup xs=>some xs.length
 | .dK ks _=>some ks.length
 | _=>none
noncomputable def bO(t:String):PV->Option Bool
 | .non=>if t="int"\/t="str"\/t="list"\/t="tuple"\/t="bool" then some false else none
 | .bl _=>if t="int"\/t="bool" then some true else if t="str"\/t="list"\/t="tuple" then some false else none
 | .int _=>if t="int" then some true else if t="bool"\/t="str"\/t="list"\/t="tuple" then some false else none
 | .str _=>if t="str" then some true else if t="bool"\/t="int"\/t="list"\/t="tuple" then some false else none
 | .lst _=>if t="list" then some true else if t="bool"\/t="int"\/t="str"\/t="tuple" then some false else none
 | .tup _=>if t="tuple" then some true else if t="bool"\/t="int"\/t="str"\/t="list" then some false else none
 | .dK _ _=>if t="bool"\/t="int"\/t="str"\/t="list"\/t="tuple" then some false else none
 | .dT _ _=>none
noncomputable def eE:List PV->Option (List Bool)
 | []=>some []
 | .bl b::r=>(eE r).map (b::·)
 | _::_=>none
noncomputable def dG:List PV->Option (List Str)
 | []=>some []
 | .str z::r=>(dG r).map (z::·)
 | _::_=>none
noncomputable def ak:List PV->Option (List Int)
 | []=>some []
 | .int i::r=>(ak r).map (i::·)
 | _::_=>none
noncomputable def jG(sep:Str):List Str->Str
 | []=>⟨#[]⟩
 | [x]=>x
 | x::y::r=>x++sep++jG sep (y::r)
noncomputable def lrng(n:Nat):List PV:=(List.range n).map fun i=>.int (i:Nat)
noncomputable def uR:PV->Option (Int×Int)
 | .tup xs=>(ak xs).bind fun ns=>match ns with
  | [a,b]=>some (a,b)
  | _=>none
 | _=>none
noncomputable def gF:List PV->Option (List (Int×Int))
 | []=>some []
 | x::r=>(uR x).bind fun q=>(gF r).map (q::·)
noncomputable def tR(q:Int×Int):PV:=.tup [.int q.1,.int q.2]
noncomputable def gB(ps:List (Int×Int)):List (Int×Int):=ps.mergeSort fun a b=>decide (SW.cI a<=SW.cI b)
noncomputable def pj(xs:List PV):Option RV:=(gF xs).bind fun ps=>if ps.length<64/\ps.all (fun q=>decide (0<=q.2)&&decide (q.2<1000))=true then some (.own ((gB ps).map tR) true)else none
noncomputable def pq(xs:List PV):Option RV:=match ak xs with
 | some ns=>if ns.length<64 then some (.own ((L2.sortI ns).map PV.int) true)else none
 | none=>pj xs
noncomputable def py:PV->Option (List Int)
 | .lst xs=>(ak xs).bind fun ns=>if ns.all (fun n=>decide (0<=n)&&decide (n<8))=true then some ns else none
 | _=>none
noncomputable def revT(a:RV):Option RV:=match a.val with
 | .tup _=>(match a.its with
  | some (xs,n)=>if xs.isEmpty then none else some (.frz (.tup xs.reverse) n)
  | none=>none)
 | _=>none
noncomputable def strI:PV->Option RV
 | .int i=>if i.natAbs.log2<1920 then some (sc (.str (Str.ofString (toString i))))else none
 | _=>none
noncomputable def rW(x:PV)(xs:List PV):Option RV:=if xs.all (fg 12)&&fg 12 x then(xs.findIdx? fun y=>jV y x).map fun j=>sc (.int (j:Nat))else none
noncomputable def AN:PV->Option RV
 | .dK ks vs=>if ks.length<=LN then(ak vs).map fun ns=>.own (ns.map PV.int) true else none
 | _=>none
noncomputable def mK(f:Bf)(as:List RV):Option RV :=
 match f,as with
 | .len,[a]=>(bJ a.val).map fun n=>sc (.int (n:Nat))
 | .int,[a]=>match a.val with
  | .int i=>some (sc (.int i))
  | .bl b=>some (sc (.int (if b then 1 else 0)))
  | _=>none
 | .list,[a]=>match a.its with
  | some (xs,n)=>some (.own xs n)
  | none=>none
 | .tuple,[a]=>match a.its with
  | some (xs,n)=>some (.frz (.tup xs) n)
  | none=>none
 | .all,[a]=>match a.val with
  | .lst xs=>(eE xs).map fun bs=>sc (.bl (bs.all id))
  | _=>none
 | .sum,[a]=>match a.val with
  | .lst xs=>(ak xs).map fun ns=>sc (.int ns.sum)
  | _=>none
 | .sorted,[a]=>match a.val with
  | .lst xs=>pq xs
  | _=>none
 | .sumv,[a]=>match a.val with
  | .dK _ vs=>(ak vs).map fun ns=>sc (.int ns.sum)
  | _=>none
 | .sset,[a]=>(py a.val).map fun ns=>.own ((L2.wE ns).map PV.int) true
 | .lset,[a]=>(py a.val).map fun ns=>sc (.int ((L2.wE ns).length:Nat))
 | .trev,[a]=>revT a
 | .lvals,[a]=>AN a.val
 | .str,[a]=>strI a.val
 | .isin t,[a]=>(bO t a.val).map fun b=>sc (.bl b)
 | .min,[a,b]=>match a.val,b.val with
  | .int i,.int j=>some (sc (.int (if j<i then j else i)))
  | _,_=>none
 | .max,[a,b]=>match a.val,b.val with
  | .int i,.int j=>some (sc (.int (if j>i then j else i)))
  | _,_=>none
 | .lrange,[a]=>match a.val with
  | .int i=>if 0<=i/\i<=1000 then some (.own (lrng i.toNat) true)else none
  | _=>none
 | .lrange2,[a,b]=>match a.val,b.val with
  | .int i,.int j=>if -1000<=i/\j<=1000/\i<=j then some (.own ((List.range (j-i).toNat).map fun k=>.int (i+(k:Nat))) true)else none
  | _,_=>none
 | _,_=>none
noncomputable def oQ(m:Bm)(o:RV)(as:List RV):Option RV :=
 match m,o.val,as with
 | .join,.str sep,[a]=>match a.val with
  | .lst xs=>(dG xs).bind fun ys=>if(ys.map (·.length)).sum+ys.length*sep.length<=LN then some (sc (.str (jG sep ys)))else none
  | .tup xs=>(dG xs).bind fun ys=>if(ys.map (·.length)).sum+ys.length*sep.length<=LN then some (sc (.str (jG sep ys)))else none
  | _=>none
 | .jrev,.str sep,[a]=>match a.val with
  | .str z=>if sep.cps= #[]/\0<z.length/\z.length<=LN then some (sc (.str ⟨z.cps.toList.reverse.toArray⟩))else none
  | _=>none
 | .count,.str z,[a]=>match a.val with
  | .str y=>some (sc (.int (Txt.count z y)))
  | _=>none
 | .index,.tup xs,[a]=>rW a.val xs
 | .index,.lst xs,[a]=>rW a.val xs
 | .get,.dK ks vs,[a,d]=>(nK a.val).bind fun k=>match zM ks vs k with
  | some e=>(match o with
   | .frz _ n=>some (.frz e (n||imm e))
   | .bor _=>some (kJ e)
   | _=>none)
  | none=>some d
 | _,_,_=>none
noncomputable def ixK(a:RV)(k:Int):Option RV :=
 match a with
 | .frz (.lst xs) n=>(dN xs k).map fun e=>.frz e (n||imm e)
 | .frz (.tup xs) n=>(dN xs k).map fun e=>.frz e (n||imm e)
 | .own xs n=>(dN xs k).map fun e=>.frz e (n||imm e)
 | .bor (.lst xs)=>(dN xs k).map kJ
 | .bor (.tup xs)=>(dN xs k).map kJ
 | .frz (.str z) _=>if z.length<=LN then(dN z.cps.toList k).map fun c=>sc (.str ⟨#[c]⟩)else none
 | _=>none
noncomputable def index(a i:RV):Option RV:=match i.val with
 | .int k=>ixK a k
 | _=>none
noncomputable def cut{α:Type}(xs:List α)(lo hi:Option Int):List α:=(xs.drop (HT.au xs.length 0 lo)).take (HT.au xs.length xs.length hi-HT.au xs.length 0 lo)
noncomputable def slice(a:RV)(lo hi:Option Int):Option RV :=
 match a.val with
 | .str z=>if z.length<=LN then(match lo,hi with
  | none,some k=>if 0<=k then some (sc (.str ⟨(z.cps.toList.take k.toNat).toArray⟩))else none
  | some k,none=>if 0<=k then some (sc (.str ⟨(z.cps.toList.drop k.toNat).toArray⟩))else none
  | _,_=>none)else none
 | .lst _=>match a.its with
  | some (xs,n)=>some (.own (cut xs lo hi) (n||imms xs))
  | none=>none
 | .tup _=>match a.its with
  | some (xs,n)=>if HT.au xs.length 0 lo=0/\HT.au xs.length xs.length hi=xs.length then some (.frz (.tup xs) n)else some (.frz (.tup (cut xs lo hi)) n)
  | none=>none
 | _=>none
noncomputable def keeps:List RV->Option (List PV×Bool)
 | []=>some ([],true)
 | r::rs=>r.keep.bind fun(v,n)=>(keeps rs).map fun(vs,m)=>(v::vs,n&&m)
noncomputable def dF(τ:En)(i:Nat):Option RV :=
 match τ[i]? with
 | some (.frz v n)=>some (.frz v n)
 | some (.own xs _)=>some (.bor (.lst xs))
 | some (.owd b xs _)=>some (.bor (b.pv xs))
 | _=>none
noncomputable def oa:Option RV->Option (Option Int)
 | none=>some none
 | some r=>match r.val with
  | .int i=>some (some i)
  | _=>none
noncomputable def cU(f:PV->Option (Option (PV×Bool))):List PV->Option (List PV×Bool)
 | []=>some ([],true)
 | x::xs=>(f x).bind fun r=>(cU f xs).map fun(vs,m)=>match r with
  | none=>(vs,m)
  | some (v,n)=>(v::vs,n&&m)
noncomputable def oA:List RV->Option (List PV)
 | [a]=>match a.val with
  | .int j=>if -(2^62)<=j/\j<2^62 then some ((List.range j.toNat).map fun i=>.int (0+(i:Nat)))else none
  | _=>none
 | [a,b]=>match a.val,b.val with
  | .int i,.int j=>if -(2^62)<=i/\i<2^62/\ -(2^62)<=j/\j<2^62 then some ((List.range (j-i).toNat).map fun k=>.int (i+(k:Nat)))else none
  | _,_=>none
 | [a,b,c]=>match a.val,b.val,c.val with
  | .int i,.int j,.int k=>if k≠0/\k.natAbs<1073741824/\Builtin.Range.small i j k=true then some ((List.range (Builtin.Range.rangeSize i j k).toNat).map fun m=>.int (i+(m:Nat)*k))else none
  | _,_,_=>none
 | _=>none
noncomputable def xz:PV->Option Int
 | .int i=>some i
 | _=>none
noncomputable def fA:PV->Option Bool
 | .bl b=>some b
 | _=>none
noncomputable def iD(x:RV):Option (List PV×Bool×Bool):=match x with
  | .frz (.str z) _=>some (signs z,true,false)
  | .bor (.lst xs)=>if imms xs then some (xs,true,true)else none
  | .bor (.tup xs)=>if imms xs then some (xs,true,true)else none
  | .bor _=>none
  | r=>r.its.map fun(xs,n)=>(xs,n,false)
noncomputable def mv(x y:PV):PV:=.tup [x,y]
noncomputable def ut:RV->Option (List PV×Bool)
 | .frz (.lst xs) n=>some (xs,n)
 | .own xs n=>some (xs,n)
 | _=>none
noncomputable def pM(x y:RV):Option (List PV×Bool) :=
 match ut x,ut y with
 | some (xs,n),some (ys,m)=>if xs.length=ys.length then some (List.zipWith mv xs ys,n&&m)else none
 | _,_=>none
section
variable(cd:Nat->List PV->Option PV)
noncomputable def jp:PV->RV
 | .lst xs=>.own xs true
 | v=>.frz v true
mutual
noncomputable def aL:IE->En->Option RV
 | .con v,_=>some (sc v)
 | .var i,τ=>dF τ i
 | .bin op a b,τ=>(aL a τ).bind fun x=>(aL b τ).bind fun y=>cr op x y
 | .neg a,τ=>(aL a τ).bind fun x=>(xz x.val).map fun i=>sc (.int (-i))
 | .cmp op a b,τ=>(aL a τ).bind fun x=>(aL b τ).bind fun y=>(ar op x.val y.val).map fun r=>sc (.bl r)
 | .chn o1 o2 a b c,τ=>(aL a τ).bind fun x=>(aL b τ).bind fun y=>(ar o1 x.val y.val).bind fun r=>if r then(aL c τ).bind fun z=>(ar o2 y.val z.val).map fun r=>sc (.bl r)else some (sc (.bl false))
 | .and a b,τ=>(aL a τ).bind fun x=>(fA x.val).bind fun t=>if t then aL b τ else some (sc (.bl false))
 | .or a b,τ=>(aL a τ).bind fun x=>(fA x.val).bind fun t=>if t then some (sc (.bl true))else aL b τ
 | .not a,τ=>(aL a τ).bind fun x=>(fA x.val).map fun b=>sc (.bl !b)
 | .ite c a b,τ=>(dC c τ).bind fun r=>if r then aL a τ else aL b τ
 | .call f es,τ=>(cL es τ).bind fun rs=>(cd f (rs.map RV.val)).map jp
 | .bf f es,τ=>(cL es τ).bind fun rs=>mK f rs
 | .mth m o es,τ=>(aL o τ).bind fun x=>(cL es τ).bind fun rs=>oQ m x rs
 | .lst es,τ=>(cL es τ).bind fun rs=>(keeps rs).bind fun(vs,n)=>kE vs n
 | .tup es,τ=>(cL es τ).bind fun rs=>(keeps rs).bind fun(vs,n)=>kB vs n
 | .dnew,_=>some (.owd (.dK []) [] true)
 | .dlit k e,τ=>(aL e τ).bind fun r=>r.keep.bind fun(v,_)=>if imm v then some (.owd (.dK [k]) [v] true)else none
 | .ix a i,τ=>(aL a τ).bind fun x=>(aL i τ).bind fun y=>index x y
 | .sl a lo hi,τ=>(aL a τ).bind fun x=>(yN lo τ).bind fun l=>(yN hi τ).bind fun h=>(oa l).bind fun l' =>(oa h).bind fun h' =>slice x l' h'
 | .lc elt src ifs caps,τ=>(lv src τ).bind fun(xs,n,_)=>if xs.length<=LN then(cU (fun x=>(jJ ifs (.frz x (n||imm x)::caps.map fun i=>τ.getD i .un)).bind fun b =>
   if b then(aL elt (.frz x (n||imm x)::caps.map fun i=>τ.getD i .un)).bind fun r=>r.keep.map some else some none) xs).map fun(vs,m)=>.own vs m else none
 | .never,_=>none
noncomputable def cL:fj->En->Option (List RV)
 | .nil,_=>some []
 | .cons e es,τ=>(aL e τ).bind fun x=>(cL es τ).map (x::·)
noncomputable def yN:IO->En->Option (Option RV)
 | .no,_=>some none
 | .yes e,τ=>(aL e τ).map some
noncomputable def dC:IC->En->Option Bool
 | .val e,τ=>(aL e τ).bind fun x=>jo x.val
 | .not c,τ=>(dC c τ).map (!·)
 | .and c d,τ=>(dC c τ).bind fun r=>if r then dC d τ else some false
 | .or c d,τ=>(dC c τ).bind fun r=>if r then some true else dC d τ
noncomputable def jJ:A4->En->Option Bool
 | .no,_=>some true
 | .yes c,τ=>dC c τ
noncomputable def lv:IT->En->Option (List PV×Bool×Bool)
 | .seq e,τ=>(aL e τ).bind iD
 | .rng es,τ=>(cL es τ).bind fun rs=>(oA rs).map fun xs=>(xs,true,false)
 | .zip a b,τ=>(aL a τ).bind fun x=>(aL b τ).bind fun y=>(pM x y).map fun(xs,n)=>(xs,n,false)
 | .never,_=>none
end
inductive Fl where
 | nx (τ:En)|bk (τ:En)|ct (τ:En)|rt (v:PV)
noncomputable def eg(f:Fl)(k:En->Option Fl):Option Fl:=match f with
 | .nx τ=>k τ
 | .bk τ=>some (.bk τ)
 | .ct τ=>some (.ct τ)
 | .rt v=>some (.rt v)
noncomputable def jI(τ:En)(i:Nat):En :=
 match τ[i]? with
 | some (.own xs n)=>τ.set i (.frz (.lst xs) n)
 | some (.owd b xs n)=>τ.set i (.frz (b.pv xs) n)
 | _=>τ
noncomputable def aw(cap:List Nat)(τ:En):En:=cap.foldl jI τ
noncomputable def fF(o:Bool)(i:Nat)(r:RV)(τ:En):Option En :=
 match o,r with
 | true,.own xs n=>some (τ.set i (.own xs n))
 | true,.owd b xs n=>some (τ.set i (.owd b xs n))
 | _,r=>r.keep.map fun(v,n)=>τ.set i (.frz v n)
noncomputable def bv(n:Bool):List Nat->List PV->En->Option En
 | [],[],τ=>some τ
 | i::is,x::xs,τ=>bv n is xs (τ.set i (.frz x (n||imm x)))
 | _,_,_=>none
noncomputable def ib(is:List Nat)(one n:Bool)(x:PV)(τ:En):Option En :=
 if one then bv n is [x] τ else match x with
  | .tup xs=>bv n is xs τ
  | _=>none
noncomputable def setU(is:List Nat)(n:Bool)(x:PV)(τ:En):Option En:=match x with
 | .tup xs=>bv n is xs τ
 | .lst xs=>bv n is xs τ
 | _=>none
noncomputable def gU(set:PV->En->Option En)(body:En->Option Fl):List PV->En->Option Fl
 | [],τ=>some (.nx τ)
 | x::xs,τ=>(set x τ).bind fun τ1=>(body τ1).bind fun f=>match f with
  | .nx τ2=>gU set body xs τ2
  | .ct τ2=>gU set body xs τ2
  | .bk τ2=>some (.nx τ2)
  | .rt v=>some (.rt v)
noncomputable def vv(c:En->Option Bool)(body:En->Option Fl):Nat->En->Option Fl
 | 0,_=>none
 | k+1,τ=>(c τ).bind fun b=>if b then(body τ).bind fun f=>(match f with
  | .nx τ2=>vv c body k τ2
  | .ct τ2=>vv c body k τ2
  | .bk τ2=>some (.nx τ2)
  | .rt v=>some (.rt v))else some (.nx τ)
variable(fu:Nat)
mutual
noncomputable def de:IS->En->Option Fl
 | .asg i o cap e,τ=>let τ1:=aw cap τ;(aL cd e τ1).bind fun r=>(fF o i r τ1).map .nx
 | .ret cap e,τ=>let τ1:=aw cap τ;(aL cd e τ1).bind fun r=>r.keep.bind fun(v,n)=>if n then some (.rt v)else none
 | .retN,_=>some (.rt .non)
 | .ife c a b,τ=>(dC cd c τ).bind fun r=>if r then al a τ else al b τ
 | .forr is one cap src body,τ=>let τ1:=aw cap τ;(lv cd src τ1).bind fun(xs,n,b)=>if b then none else gU (ib is one n) (fun τ=>al body τ) xs τ1
 | .whil c body,τ=>vv (fun τ=>dC cd c τ) (fun τ=>al body τ) fu τ
 | .pass,τ=>some (.nx τ)
 | .brk,τ=>some (.bk τ)
 | .cont,τ=>some (.ct τ)
 | .app i cap e,τ=>let τ1:=aw cap τ;(aL cd e τ1).bind fun r=>r.keep.bind fun(v,m)=>match τ1[i]? with
  | some (.own xs n)=>if xs.length<LN then some (.nx (τ1.set i (.own (xs++[v]) (n&&m))))else none
  | _=>none
 | .drop e,τ=>(aL cd e τ).map fun _=>.nx τ
 | .hand m g,τ=>(g ((τ.take m).map TV.valD)).map .rt
 | .rais _,_=>none
 | .never,_=>none
noncomputable def al:mQ->En->Option Fl
 | .nil,τ=>some (.nx τ)
 | .cons s ss,τ=>(de s τ).bind fun f=>eg f (fun τ1=>al ss τ1)
end
end
structure FD where
 nn:Nat
 np:Nat
 body:mQ
noncomputable def entry(d:FD)(vs:List PV):En:=vs.map (fun v=>.frz v (imm v))++List.replicate (d.nn-vs.length) .un
noncomputable def cR:Option Fl->Option PV
 | some (.rt v)=>some v
 | some (.nx _)=>some .non
 | _=>none
noncomputable def aB(P:Nat->Option FD):Nat->Nat->List PV->Option PV
 | 0,_,_=>none
 | k+1,f,vs=>(P f).bind fun d=>if vs.length=d.np then cR (al (aB P k) 1000000 d.body (entry d vs))else none
section
set_option autoImplicit true
set_option relaxedAutoImplicit true
variable{cd:Nat->List PV->Option PV}{fu:Nat}{τ:En}
theorem bL:aL cd (.con v) τ=(some (sc v)):=rfl
theorem bN:aL cd (.var i) τ=(dF τ i):=rfl
theorem bK:aL cd (.bin op a b) τ=((aL cd a τ).bind fun x=>(aL cd b τ).bind fun y=>cr op x y):=rfl
theorem cB:aL cd (.neg a) τ=((aL cd a τ).bind fun x=>(xz x.val).map fun i=>sc (.int (-i))):=rfl
theorem bj:aL cd (.cmp op a b) τ=((aL cd a τ).bind fun x=>(aL cd b τ).bind fun y=>(ar op x.val y.val).map fun r=>sc (.bl r)):=rfl
theorem bu:aL cd (.chn o1 o2 a b c) τ=((aL cd a τ).bind fun x=>(aL cd b τ).bind fun y=>(ar o1 x.val y.val).bind fun r=>if r then(aL cd c τ).bind fun z=>(ar o2 y.val z.val).map fun r=>sc (.bl r)else some (sc (.bl false))):=rfl
theorem bo:aL cd (.and a b) τ=((aL cd a τ).bind fun x=>(fA x.val).bind fun t=>if t then aL cd b τ else some (sc (.bl false))):=rfl
theorem b9:aL cd (.or a b) τ=((aL cd a τ).bind fun x=>(fA x.val).bind fun t=>if t then some (sc (.bl true))else aL cd b τ):=rfl
theorem bt:aL cd (.not a) τ=((aL cd a τ).bind fun x=>(fA x.val).map fun b=>sc (.bl !b)):=rfl
theorem cC:aL cd (.ite c a b) τ=((dC cd c τ).bind fun r=>if r then aL cd a τ else aL cd b τ):=rfl
theorem bZ:aL cd (.call f es) τ=((cL cd es τ).bind fun rs=>(cd f (rs.map RV.val)).map jp):=rfl
theorem bn:aL cd (.bf f es) τ=((cL cd es τ).bind fun rs=>mK f rs):=rfl
theorem bg:aL cd (.mth m o es) τ=((aL cd o τ).bind fun x=>(cL cd es τ).bind fun rs=>oQ m x rs):=rfl
theorem bh:aL cd (.lst es) τ=((cL cd es τ).bind fun rs=>(keeps rs).bind fun(vs,n)=>kE vs n):=rfl
theorem bc:aL cd (.tup es) τ=((cL cd es τ).bind fun rs=>(keeps rs).bind fun(vs,n)=>kB vs n):=rfl
theorem cD:aL cd (.dnew) τ=(some (.owd (.dK []) [] true)):=rfl
theorem cE:aL cd (.dlit k e) τ=((aL cd e τ).bind fun r=>r.keep.bind fun(v,_)=>if imm v then some (.owd (.dK [k]) [v] true)else none):=rfl
theorem ba:aL cd (.ix a i) τ=((aL cd a τ).bind fun x=>(aL cd i τ).bind fun y=>index x y):=rfl
theorem bW:aL cd (.sl a lo hi) τ=((aL cd a τ).bind fun x=>(yN cd lo τ).bind fun l=>(yN cd hi τ).bind fun h=>(oa l).bind fun l' =>(oa h).bind fun h' =>slice x l' h'):=rfl
theorem bi:aL cd (.lc elt src ifs caps) τ=((lv cd src τ).bind fun(xs,n,_)=>if xs.length<=LN then(cU (fun x=>(jJ cd ifs (.frz x (n||imm x)::caps.map fun i=>τ.getD i .un)).bind fun b =>
   if b then(aL cd elt (.frz x (n||imm x)::caps.map fun i=>τ.getD i .un)).bind fun r=>r.keep.map some else some none) xs).map fun(vs,m)=>.own vs m else none):=rfl
theorem cA:aL cd (.never) τ=(none):=rfl
theorem pH:cL cd (.nil) τ=(some []):=rfl
theorem k9:cL cd (.cons e es) τ=((aL cd e τ).bind fun x=>(cL cd es τ).map (x::·)):=rfl
theorem vt:yN cd (.no) τ=(some none):=rfl
theorem vq:yN cd (.yes e) τ=((aL cd e τ).map some):=rfl
theorem pP:dC cd (.val e) τ=((aL cd e τ).bind fun x=>jo x.val):=rfl
theorem tQ:dC cd (.not c) τ=((dC cd c τ).map (!·)):=rfl
theorem tV:dC cd (.and c d) τ=((dC cd c τ).bind fun r=>if r then dC cd d τ else some false):=rfl
theorem tP:dC cd (.or c d) τ=((dC cd c τ).bind fun r=>if r then some true else dC cd d τ):=rfl
theorem zI:jJ cd (.no) τ=(some true):=rfl
theorem z0q:jJ cd (.yes c) τ=(dC cd c τ):=rfl
theorem vp:lv cd (.seq e) τ=((aL cd e τ).bind iD):=rfl
theorem wT:lv cd (.rng es) τ=((cL cd es τ).bind fun rs=>(oA rs).map fun xs=>(xs,true,false)):=rfl
theorem wS:lv cd (.zip a b) τ=((aL cd a τ).bind fun x=>(aL cd b τ).bind fun y=>(pM x y).map fun(xs,n)=>(xs,n,false)):=rfl
theorem yv:lv cd (.never) τ=(none):=rfl
theorem fY:de cd fu (.asg i o cap e) τ=(let τ1:=aw cap τ;(aL cd e τ1).bind fun r=>(fF o i r τ1).map .nx):=rfl
theorem fK:de cd fu (.ret cap e) τ=(let τ1:=aw cap τ;(aL cd e τ1).bind fun r=>r.keep.bind fun(v,n)=>if n then some (.rt v)else none):=rfl
theorem fJ:de cd fu (.retN) τ=(some (.rt .non)):=rfl
theorem fQ:de cd fu (.ife c a b) τ=((dC cd c τ).bind fun r=>if r then al cd fu a τ else al cd fu b τ):=rfl
theorem fU:de cd fu (.forr is one cap src body) τ=(let τ1:=aw cap τ;(lv cd src τ1).bind fun(xs,n,b)=>if b then none else gU (ib is one n) (fun τ=>al cd fu body τ) xs τ1):=rfl
theorem fH:de cd fu (.whil c body) τ=(vv (fun τ=>dC cd c τ) (fun τ=>al cd fu body τ) fu τ):=rfl
theorem fO:de cd fu (.pass) τ=(some (.nx τ)):=rfl
theorem fX:de cd fu (.brk) τ=(some (.bk τ)):=rfl
theorem fW:de cd fu (.cont) τ=(some (.ct τ)):=rfl
theorem fZ:de cd fu (.app i cap e) τ=(let τ1:=aw cap τ;(aL cd e τ1).bind fun r=>r.keep.bind fun(v,m)=>match τ1[i]? with
  | some (.own xs n)=>if xs.length<LN then some (.nx (τ1.set i (.own (xs++[v]) (n&&m))))else none
  | _=>none):=rfl
theorem fV:de cd fu (.drop e) τ=((aL cd e τ).map fun _=>.nx τ):=rfl
theorem fT:de cd fu (.hand m g) τ=((g ((τ.take m).map TV.valD)).map .rt):=rfl
theorem fN:de cd fu (.rais w1) τ=(none):=rfl
theorem fP:de cd fu (.never) τ=(none):=rfl
theorem pN:al cd fu (.nil) τ=(some (.nx τ)):=rfl
theorem pO:al cd fu (.cons s ss) τ=((de cd fu s τ).bind fun f=>eg f (fun τ1=>al cd fu ss τ1)):=rfl
end
end IR
namespace IR
open PySem PySem.Spec PyProof.Rows L2
noncomputable def del(H:Hp)(p:Addr):Hp:=fun b=>if b=p then none else H b
noncomputable def aN(H:Hp)(O:List Addr):Hp:=fun b=>if b∈O then none else H b
theorem ck{H H' :Hp}{p:Addr}(s:aA H H'):aA (del H p) (del H' p):=fun b o e=>by
 unfold del at e ⊢
 split at e
 ·cases e
 ·rename_i h
  rw[BI h];exact s b o e
theorem aM{H H' :Hp}{O:List Addr}(s:aA H H'):aA (aN H O) (aN H' O):=fun b o e=>by
 unfold aN at e ⊢
 split at e
 ·cases e
 ·rename_i h
  rw[BI h];exact s b o e
theorem bB{H:Hp}{p:Addr}:aA (del H p) H:=fun b o e=>by
 unfold del at e
 split at e
 ·cases e
 ·exact e
theorem aV{H:Hp}{O:List Addr}:aA (aN H O) H:=fun b o e=>by
 unfold aN at e
 split at e
 ·cases e
 ·exact e
theorem nP{H:Hp}{O O' :List Addr}(h:∀b∈O',b∈O):aA (aN H O) (aN H O'):=fun b o e=>by
 unfold aN at e ⊢
 split at e
 ·cases e
 ·rename_i n
  rw[BI fun z=>n (h b z)];exact e
theorem jC{H:Hp}:aN H []=H:=by funext b;unfold aN;simp
section
variable(K:W.Frag)(Hi:Hp)
mutual
noncomputable def Rp(n:Bool):PV->Hp->V->Prop
 | .non,_,u=>u=.non
 | .bl b,_,u=>u=.bl b
 | .int i,_,u=>u=.int i
 | .str z,_,u=>u=.str z
 | .lst xs,H,u=>∃p us,u=.ref p/\(n=true->Hi p=none/\H p=some (.lst us))/\aj K H p us/\aF n xs (del H p) us
 | .tup xs,H,u=>∃p us,u=.ref p/\bI K H p us/\aF n xs H us
 | .dK ks vs,H,u=>∃p us,u=.ref p/\(n=true->Hi p=none)/\H p=some (.dK (ks.zip us))/\ks.length=us.length/\aF n vs (del H p) us
 | .dT ks vs,H,u=>∃p us,u=.ref p/\(n=true->Hi p=none)/\H p=some (.dT (ks.zip us))/\ks.length=us.length/\aF n vs (del H p) us
noncomputable def aF(n:Bool):List PV->Hp->List V->Prop
 | [],_,us=>us=[]
 | x::xs,H,us=>∃u r,us=u::r/\Rp n x H u/\aF n xs H r
end
end
section
variable{K:W.Frag}{Hi:Hp}
mutual
theorem Rp.mono{n:Bool}:∀{v:PV}{H H' :Hp}{u:V},aA H H' ->Rp K Hi n v H u->Rp K Hi n v H' u
 | .non,_,_,_,_,h=>by unfold Rp at h ⊢;exact h
 | .bl _,_,_,_,_,h=>by unfold Rp at h ⊢;exact h
 | .int _,_,_,_,_,h=>by unfold Rp at h ⊢;exact h
 | .str _,_,_,_,_,h=>by unfold Rp at h ⊢;exact h
 | .lst xs,_,_,_,s,h=>by
  unfold Rp at h ⊢;obtain⟨p,us,e,q,l,r⟩:=h;exact⟨p,us,e,fun z=>⟨(q z).1,s _ _ (q z).2⟩,s.seq l,aF.mono (ck s) r⟩
 | .tup xs,_,_,_,s,h=>by
  unfold Rp at h ⊢;obtain⟨p,us,e,l,r⟩:=h;exact⟨p,us,e,s.tup l,aF.mono s r⟩
 | .dK ks vs,_,_,_,s,h=>by
  unfold Rp at h ⊢;obtain⟨p,us,e,q,l,z,r⟩:=h;exact⟨p,us,e,q,s _ _ l,z,aF.mono (ck s) r⟩
 | .dT ks vs,_,_,_,s,h=>by
  unfold Rp at h ⊢;obtain⟨p,us,e,q,l,z,r⟩:=h;exact⟨p,us,e,q,s _ _ l,z,aF.mono (ck s) r⟩
theorem aF.mono{n:Bool}:∀{xs:List PV}{H H' :Hp}{us:List V},aA H H' ->aF K Hi n xs H us->aF K Hi n xs H' us
 | [],_,_,_,_,h=>by unfold aF at h ⊢;exact h
 | x::xs,_,_,_,s,h=>by
  unfold aF at h ⊢;obtain⟨u,r,e,a,b⟩:=h;exact⟨u,r,e,Rp.mono s a,aF.mono s b⟩
end
mutual
theorem Rp.weak{n:Bool}:∀{v:PV}{H:Hp}{u:V},Rp K Hi n v H u->Rp K Hi false v H u
 | .non,_,_,h=>by unfold Rp at h ⊢;exact h
 | .bl _,_,_,h=>by unfold Rp at h ⊢;exact h
 | .int _,_,_,h=>by unfold Rp at h ⊢;exact h
 | .str _,_,_,h=>by unfold Rp at h ⊢;exact h
 | .lst xs,_,_,h=>by
  unfold Rp at h ⊢;obtain⟨p,us,e,q,l,r⟩:=h;exact⟨p,us,e,(fun z=>absurd z BC),l,aF.weak r⟩
 | .tup xs,_,_,h=>by
  unfold Rp at h ⊢;obtain⟨p,us,e,l,r⟩:=h;exact⟨p,us,e,l,aF.weak r⟩
 | .dK ks vs,_,_,h=>by
  unfold Rp at h ⊢;obtain⟨p,us,e,q,l,z,r⟩:=h;exact⟨p,us,e,(fun z=>absurd z BC),l,z,aF.weak r⟩
 | .dT ks vs,_,_,h=>by
  unfold Rp at h ⊢;obtain⟨p,us,e,q,l,z,r⟩:=h;exact⟨p,us,e,(fun z=>absurd z BC),l,z,aF.weak r⟩
theorem aF.weak{n:Bool}:∀{xs:List PV}{H:Hp}{us:List V},aF K Hi n xs H us->aF K Hi false xs H us
 | [],_,_,h=>by unfold aF at h ⊢;exact h
 | x::xs,_,_,h=>by
  unfold aF at h ⊢;obtain⟨u,r,e,a,b⟩:=h;exact⟨u,r,e,Rp.weak a,aF.weak b⟩
end
theorem Rp.low{n m:Bool}{v:PV}{H:Hp}{u:V}(h:Rp K Hi n v H u)(e:m=true->n=true):Rp K Hi m v H u:=by
 cases n with
 | true=>cases m with
  | true=>exact h
  | false=>exact h.weak
 | false=>cases m with
  | true=>cases e rfl
  | false=>exact h
theorem aF.low{n m:Bool}{v:List PV}{H:Hp}{u:List V}(h:aF K Hi n v H u)(e:m=true->n=true):aF K Hi m v H u:=by
 cases n with
 | true=>cases m with
  | true=>exact h
  | false=>exact h.weak
 | false=>cases m with
  | true=>cases e rfl
  | false=>exact h
mutual
theorem Rp.entry{Hj:Hp}{n:Bool}(k:n=true->∀p,Hi p=none->Hj p=none):∀{v:PV}{H:Hp}{u:V},Rp K Hi n v H u->Rp K Hj n v H u
 | .non,_,_,h=>by unfold Rp at h ⊢;exact h
 | .bl _,_,_,h=>by unfold Rp at h ⊢;exact h
 | .int _,_,_,h=>by unfold Rp at h ⊢;exact h
 | .str _,_,_,h=>by unfold Rp at h ⊢;exact h
 | .lst xs,_,_,h=>by
  unfold Rp at h ⊢;obtain⟨p,us,e,q,l,r⟩:=h;exact⟨p,us,e,fun z=>⟨k z _ (q z).1,(q z).2⟩,l,aF.entry k r⟩
 | .tup xs,_,_,h=>by
  unfold Rp at h ⊢;obtain⟨p,us,e,l,r⟩:=h;exact⟨p,us,e,l,aF.entry k r⟩
 | .dK ks vs,_,_,h=>by
  unfold Rp at h ⊢;obtain⟨p,us,e,q,l,z,r⟩:=h;exact⟨p,us,e,fun z=>k z _ (q z),l,z,aF.entry k r⟩
 | .dT ks vs,_,_,h=>by
  unfold Rp at h ⊢;obtain⟨p,us,e,q,l,z,r⟩:=h;exact⟨p,us,e,fun z=>k z _ (q z),l,z,aF.entry k r⟩
theorem aF.entry{Hj:Hp}{n:Bool}(k:n=true->∀p,Hi p=none->Hj p=none):∀{xs:List PV}{H:Hp}{us:List V},aF K Hi n xs H us->aF K Hj n xs H us
 | [],_,_,h=>by unfold aF at h ⊢;exact h
 | x::xs,_,_,h=>by
  unfold aF at h ⊢;obtain⟨u,r,e,a,b⟩:=h;exact⟨u,r,e,Rp.entry k a,aF.entry k b⟩
end
noncomputable def mM(H G:Hp):Prop:=(∀b xs,H b=some (.tup xs)->G b=some (.tup xs))/\∀b o xs,H b=some (.frz o (.tup xs))->G b=some (.frz o (.tup xs))
theorem mM.at{H G:Hp}(t:mM H G){p:Addr}{xs:List V}(h:bI K H p xs):bI K G p xs:=by
 rcases h with(h|⟨o,h⟩)|h
 ·exact .inl (.inl (t.1 _ _ h))
 ·exact .inl (.inr ⟨o,t.2 _ _ _ h⟩)
 ·exact .inr h
mutual
theorem Rp.imm{n m:Bool}:∀{v:PV}{H G:Hp}{u:V},imm v=true->mM H G->Rp K Hi n v H u->Rp K Hi m v G u
 | .non,_,_,_,_,_,h=>by unfold Rp at h ⊢;exact h
 | .bl _,_,_,_,_,_,h=>by unfold Rp at h ⊢;exact h
 | .int _,_,_,_,_,_,h=>by unfold Rp at h ⊢;exact h
 | .str _,_,_,_,_,_,h=>by unfold Rp at h ⊢;exact h
 | .lst xs,_,_,_,i,_,h=>by unfold IR.imm at i;cases i
 | .tup xs,_,_,_,i,t,h=>by
  unfold Rp at h ⊢;unfold IR.imm at i;obtain⟨p,us,e,l,r⟩:=h;exact⟨p,us,e,t.at l,aF.imm i t r⟩
 | .dK ks vs,_,_,_,i,_,h=>by unfold IR.imm at i;cases i
 | .dT ks vs,_,_,_,i,_,h=>by unfold IR.imm at i;cases i
theorem aF.imm{n m:Bool}:∀{xs:List PV}{H G:Hp}{us:List V},imms xs=true->mM H G->aF K Hi n xs H us->aF K Hi m xs G us
 | [],_,_,_,_,_,h=>by unfold aF at h ⊢;exact h
 | x::xs,_,_,_,i,t,h=>by
  unfold aF at h ⊢;unfold imms at i;rw[BB]at i;obtain⟨u,r,e,a,b⟩:=h;exact⟨u,r,e,Rp.imm i.1 t a,aF.imm i.2 t b⟩
end
theorem Rp.up{n:Bool}{v:PV}{H:Hp}{u:V}(h:Rp K Hi n v H u):Rp K Hi (n||IR.imm v) v H u:=by
 cases e:IR.imm v with
 | true=>rw[Bool.or_true];exact Rp.imm e ⟨fun _ _ e=>e,fun _ _ _ e=>e⟩ h
 | false=>rw[Bool.or_false];exact h
theorem aF.up{n:Bool}{v:List PV}{H:Hp}{u:List V}(h:aF K Hi n v H u):aF K Hi (n||IR.imms v) v H u:=by
 cases e:IR.imms v with
 | true=>rw[Bool.or_true];exact aF.imm e ⟨fun _ _ e=>e,fun _ _ _ e=>e⟩ h
 | false=>rw[Bool.or_false];exact h
theorem aF.len{n:Bool}:∀{xs:List PV}{H:Hp}{us:List V},aF K Hi n xs H us->xs.length=us.length
 | [],_,_,h=>by unfold aF at h;rw[h];rfl
 | x::xs,_,_,h=>by
  unfold aF at h;obtain⟨u,r,e,a,b⟩:=h;rw[e,BS,BS,aF.len b]
theorem aF.at{n:Bool}:∀{xs:List PV}{H:Hp}{us:List V}{i:Nat}{x:PV},aF K Hi n xs H us->xs[i]? =some x->∃u,us[i]? =some u/\Rp K Hi n x H u
 | [],_,_,_,_,h,e=>by simp at e
 | y::xs,_,_,i,x,h,e=>by
  unfold aF at h;obtain⟨u,r,rfl,a,b⟩:=h;cases i with
  | zero=>simp at e;subst e;exact⟨u,by simp,a⟩
  | succ i=>simpa using aF.at (i:=i) (x:=x) b (by simpa using e)
theorem aF.at'{n:Bool}:∀{xs:List PV}{H:Hp}{us:List V}{i:Nat}{u:V},aF K Hi n xs H us->us[i]? =some u->∃x,xs[i]? =some x/\Rp K Hi n x H u
 | [],_,_,_,_,h,e=>by unfold aF at h;subst h;simp at e
 | y::xs,_,_,i,x,h,e=>by
  unfold aF at h;obtain⟨u,r,rfl,a,b⟩:=h;cases i with
  | zero=>simp at e;subst e;exact⟨y,by simp,a⟩
  | succ i=>simpa using aF.at' (i:=i) (u:=x) b (by simpa using e)
theorem aF.nil{n:Bool}{H:Hp}:aF K Hi n [] H []:=by unfold aF;rfl
theorem aF.cons{n:Bool}{x:PV}{xs:List PV}{H:Hp}{u:V}{us:List V}(a:Rp K Hi n x H u)(b:aF K Hi n xs H us):aF K Hi n (x::xs) H (u::us):=by unfold aF;exact⟨u,us,rfl,a,b⟩
theorem aF.app{n:Bool}:∀{xs ys:List PV}{H:Hp}{us vs:List V},aF K Hi n xs H us->aF K Hi n ys H vs->aF K Hi n (xs++ys) H (us++vs)
 | [],_,_,_,_,h,g=>by unfold aF at h;subst h;exact g
 | x::xs,_,_,_,_,h,g=>by
  unfold aF at h;obtain⟨u,r,rfl,a,b⟩:=h;exact .cons a (aF.app b g)
theorem aF.take{n:Bool}:∀{xs:List PV}{H:Hp}{us:List V}(k:Nat),aF K Hi n xs H us->aF K Hi n (xs.take k) H (us.take k)
 | [],_,_,_,h=>by unfold aF at h;subst h;simp;exact .nil
 | x::xs,_,_,k,h=>by
  unfold aF at h;obtain⟨u,r,rfl,a,b⟩:=h;cases k with
  | zero=>exact .nil
  | succ k=>exact .cons a (aF.take k b)
theorem aF.drop{n:Bool}:∀{xs:List PV}{H:Hp}{us:List V}(k:Nat),aF K Hi n xs H us->aF K Hi n (xs.drop k) H (us.drop k)
 | [],_,_,_,h=>by unfold aF at h;subst h;simp;exact .nil
 | x::xs,_,_,k,h=>by
  unfold aF at h;obtain⟨u,r,rfl,a,b⟩:=h;cases k with
  | zero=>exact .cons a b
  | succ k=>exact aF.drop k b
theorem aF.set{n:Bool}:∀{xs:List PV}{H:Hp}{us:List V}(k:Nat){x:PV}{u:V},aF K Hi n xs H us->Rp K Hi n x H u->aF K Hi n (xs.set k x) H (us.set k u)
 | [],_,_,_,_,_,h,_=>by unfold aF at h;subst h;exact .nil
 | y::xs,_,_,k,_,_,h,g=>by
  unfold aF at h;obtain⟨u,r,rfl,a,b⟩:=h;cases k with
  | zero=>exact .cons g b
  | succ k=>exact .cons a (aF.set k b g)
theorem Rp.int{n:Bool}{i:Int}{H:Hp}{u:V}:Rp K Hi n (.int i) H u↔u=.int i:=by unfold Rp;rfl
theorem Rp.str{n:Bool}{i:Str}{H:Hp}{u:V}:Rp K Hi n (.str i) H u↔u=.str i:=by unfold Rp;rfl
theorem Rp.bl{n:Bool}{i:Bool}{H:Hp}{u:V}:Rp K Hi n (.bl i) H u↔u=.bl i:=by unfold Rp;rfl
theorem Rp.non{n:Bool}{H:Hp}{u:V}:Rp K Hi n .non H u↔u=.non:=by unfold Rp;rfl
theorem Rp.tup{n:Bool}{xs:List PV}{H:Hp}{u:V}:Rp K Hi n (.tup xs) H u↔∃p us,u=.ref p/\bI K H p us/\aF K Hi n xs H us:=by rw[Rp]
theorem Rp.lst{n:Bool}{xs:List PV}{H:Hp}{u:V}:Rp K Hi n (.lst xs) H u↔∃p us,u=.ref p/\(n=true->Hi p=none/\H p=some (.lst us))/\aj K H p us/\aF K Hi n xs (del H p) us:=by rw[Rp]
theorem aF.ints{n:Bool}{H:Hp}:∀{xs:List Int}{us:List V},aF K Hi n (xs.map PV.int) H us↔us=xs.map V.int
 | [],us=>by unfold aF;rfl
 | x::xs,us=>by
  rw[BZ,BZ,aF]
  constructor
  ·rintro⟨u,r,rfl,a,b⟩
   rw[Rp.int.mp a,aF.ints.mp b]
  ·rintro rfl
   exact⟨_,_,rfl,Rp.int.mpr rfl,aF.ints.mpr rfl⟩
noncomputable def At:Bd->List V->HO->Prop
 | .lst,us,o=>o=.lst us
 | .dK ks,us,o=>o=.dK (ks.zip us)/\ks.length=us.length
 | .dT ks,us,o=>o=.dT (ks.zip us)/\ks.length=us.length
noncomputable def Mo(o:HO):Prop:=∃b us,At b us o
theorem Mo.lst{us:List V}:Mo (.lst us):=⟨.lst,us,rfl⟩
theorem Mo.tup{xs:List V}(h:Mo (.tup xs)):False:=by
 obtain⟨b,us,h⟩:=h;cases b with
 | lst=>cases h
 | dK ks=>cases h.1
 | dT ks=>cases h.1
variable(K Hi)in
structure aX(O:List Addr)(τ:En)(σ:L2.St)(H:Hp):Prop where
 same:aA Hi H
 own:∀l∈O,Hi l=none/\∃o,H l=some o/\Mo o
 frz:∀(i:Nat)(v:PV)(n:Bool),τ[i]? =some (.frz v n)->∃u,σ[i]? =some (some u)/\Rp K Hi n v (aN H O) u
 obs:∀(i:Nat)(t:TV)(b:Bd)(xs:List PV)(n:Bool),τ[i]? =some t->t.ob=some (b,xs,n)->∃l us o,σ[i]? =some (some (.ref l))/\l∈O/\H l=some o/\At b us o/\aF K Hi n xs (aN H O) us
 dst:∀(i j:Nat)(t t' :TV)(x y:Bd×List PV×Bool)(l:Addr),τ[i]? =some t->t.ob=some x->τ[j]? =some t' ->t'.ob=some y->σ[i]? =some (some (.ref l))->σ[j]? =some (some (.ref l))->i=j
section
variable{O:List Addr}{τ:En}{σ:L2.St}{H H' :Hp}
theorem aX.owns(R:aX K Hi O τ σ H)(i:Nat)(xs:List PV)(n:Bool)(e:τ[i]? =some (.own xs n)):∃l us,σ[i]? =some (some (.ref l))/\l∈O/\H l=some (.lst us)/\aF K Hi n xs (aN H O) us:=by
 obtain⟨l,us,o,h1,h2,h3,h4,h5⟩:=R.obs i _ .lst xs n e rfl;cases h4;exact⟨l,us,h1,h2,h3,h5⟩
theorem aX.ext(R:aX K Hi O τ σ H)(s:aA H H'):aX K Hi O τ σ H' where
 same:=R.same.trans s
 own:=fun l hl=>⟨(R.own l hl).1,by obtain⟨o,e,m⟩:=(R.own l hl).2;exact⟨o,s _ _ e,m⟩⟩
 frz:=fun i v n e=>by obtain⟨u,h1,h2⟩:=R.frz i v n e;exact⟨u,h1,h2.mono (aM s)⟩
 obs:=fun i t b xs n e ht=>by obtain⟨l,us,o,h1,h2,h3,h4,h5⟩:=R.obs i t b xs n e ht;exact⟨l,us,o,h1,h2,s _ _ h3,h4,h5.mono (aM s)⟩
 dst:=R.dst
theorem aX.tups(R:aX K Hi O τ σ H):mM H (aN H O):=by
 refine⟨fun b xs e=> ?_,fun b o xs e=> ?_⟩
 ·unfold aN
  rw[BI fun z=> ?_]
  ·exact e
  ·obtain⟨us,e',m⟩:=(R.own b z).2
   rw[e]at e';cases e';exact m.tup
 ·unfold aN
  rw[BI fun z=> ?_]
  ·exact e
  ·obtain⟨us,e',m⟩:=(R.own b z).2
   rw[e]at e';cases e';obtain⟨b,us,m⟩:=m;cases b with
   | lst=>cases m
   | dK ks=>cases m.1
   | dT ks=>cases m.1
theorem af{α:Type}{l:List α}{i j:Nat}{x y:α}(h:(l.set i x)[j]? =some y):(i=j/\y=x)\/(i≠j/\l[j]? =some y):=by
 rw[List.getElem?_set]at h
 split at h
 ·rename_i e
  split at h
  ·exact .inl ⟨e,(Bc h).symm⟩
  ·cases h
 ·rename_i e
  exact .inr ⟨e,h⟩
theorem aX.setF(R:aX K Hi O τ σ H){i:Nat}{v:PV}{n:Bool}{u:V}(hi:i<σ.length)(r:Rp K Hi n v (aN H O) u):aX K Hi O (τ.set i (.frz v n)) (σ.set i (some u)) H where
 same:=R.same
 own:=R.own
 frz:=fun j w m e=>by
  rcases af e with⟨rfl,e'⟩|⟨ne,e'⟩
  ·cases e'
   exact⟨u,by rw[Bv hi],r⟩
  ·obtain⟨u',h1,h2⟩:=R.frz j w m e'
   exact⟨u',by rw[Bg ne];exact h1,h2⟩
 obs:=fun j t b xs m e ht=>by
  rcases af e with⟨rfl,e'⟩|⟨ne,e'⟩
  ·subst e'
   cases ht
  ·obtain⟨l,us,o,h1,h2⟩:=R.obs j t b xs m e' ht
   exact⟨l,us,o,by rw[Bg ne];exact h1,h2⟩
 dst:=fun a b t t' x y l e1 ht e2 ht' h1 h2=>by
  rcases af e1 with⟨_,z⟩|⟨ne1,z1⟩
  ·subst z
   cases ht
  ·rcases af e2 with⟨_,z⟩|⟨ne2,z2⟩
   ·subst z
    cases ht'
   ·rw[Bg ne1]at h1
    rw[Bg ne2]at h2;exact R.dst a b t t' x y l z1 ht z2 ht' h1 h2
theorem aX.setB(R:aX K Hi O τ σ H){i:Nat}{t0:TV}{b0:Bd}{xs:List PV}{n:Bool}{p:Addr}{us:List V}{o:HO}(hob:t0.ob=some (b0,xs,n))(hi:i<σ.length)(s:aA H H')(h0:H p=none)(h1:H' p=some o)(ha:At b0 us o)(r:aF K Hi n xs (aN H' (p::O)) us) :
  aX K Hi (p::O) (τ.set i t0) (σ.set i (some (.ref p))) H' :=by
 have hs:aA (aN H O) (aN H' (p::O)):=fun b o e=>by
  unfold aN at e ⊢
  split at e
  ·cases e
  ·rename_i nb
   have ne:b≠p:=aJ e h0;rw[BI (by simp[ne,nb])];exact s b o e
 have hn:Hi p=none:=R.same.free h0;refine⟨R.same.trans s,fun l hl=> ?_,fun j w m e=> ?_,fun j t b ys m e ht=> ?_,fun a b t t' x y l e1 ht e2 ht' g1 g2=> ?_⟩
 ·rcases BP.mp hl with rfl|hl
  ·exact⟨hn,o,h1,_,_,ha⟩
  ·obtain⟨q,vs,e,m⟩:=R.own l hl
   exact⟨q,vs,s _ _ e,m⟩
 ·rcases af e with⟨rfl,e'⟩|⟨ne,e'⟩
  ·rw[<- e']at hob
   cases hob
  ·obtain⟨u',g1,g2⟩:=R.frz j w m e'
   exact⟨u',by rw[Bg ne];exact g1,g2.mono hs⟩
 ·rcases af e with⟨rfl,e'⟩|⟨ne,e'⟩
  ·subst e'
   rw[hob]at ht;cases ht;exact⟨p,us,o,by rw[Bv hi],BN,h1,ha,r⟩
  ·obtain⟨l,vs,o',g1,g2,g3,g4,g5⟩:=R.obs j t b ys m e' ht
   exact⟨l,vs,o',by rw[Bg ne];exact g1,BF _ g2,s _ _ g3,g4,g5.mono hs⟩
 ·have old:∀(c:Nat)(t:TV)(x:Bd×List PV×Bool),τ[c]? =some t->t.ob=some x->σ[c]? =some (some (.ref l))->l≠p:=fun c t x e ht g=>by
   obtain⟨b',zs,q⟩:=x;obtain⟨l',vs,o',q1,q2,q3,_⟩:=R.obs c t b' zs q e ht;rw[q1]at g;cases g;exact aJ q3 h0
  rcases af e1 with⟨rfl,z1⟩|⟨ne1,z1⟩
  ·rw[Bv hi]at g1
   cases g1
   rcases af e2 with⟨rfl,_⟩|⟨ne2,z2⟩
   ·rfl
   ·rw[Bg ne2]at g2
    exact absurd rfl (old b t' y z2 ht' g2)
  ·rw[Bg ne1]at g1
   rcases af e2 with⟨rfl,z2⟩|⟨ne2,z2⟩
   ·rw[Bv hi]at g2
    cases g2;exact absurd rfl (old a t x z1 ht g1)
   ·rw[Bg ne2]at g2
    exact R.dst a b t t' x y l z1 ht z2 ht' g1 g2
theorem aX.setO(R:aX K Hi O τ σ H){i:Nat}{xs:List PV}{n:Bool}{p:Addr}{us:List V}(hi:i<σ.length)(s:aA H H')(h0:H p=none)(h1:H' p=some (.lst us))(r:aF K Hi n xs (aN H' (p::O)) us) :
  aX K Hi (p::O) (τ.set i (.own xs n)) (σ.set i (some (.ref p))) H' :=R.setB (b0:=.lst) rfl hi s h0 h1 rfl r
theorem aX.updB(R:aX K Hi O τ σ H){i:Nat}{t t1:TV}{b b1:Bd}{xs ys:List PV}{n m:Bool}{l:Addr}{us:List V}{o:HO}(e:τ[i]? =some t)(ht:t.ob=some (b,xs,n))(ht1:t1.ob=some (b1,ys,m))(hl:σ[i]? =some (some (.ref l)))(ha:At b1 us o)(r:aF K Hi m ys (aN H O) us) :
  aX K Hi O (τ.set i t1) σ (L2.upd H l o):=by
 obtain⟨l',vs,o',g1,g2,g3,g4,g5⟩:=R.obs i t b xs n e ht;rw[hl]at g1;cases g1;have hh:aN (L2.upd H l o) O=aN H O:=by
  funext b
  unfold aN
  split
  ·rfl
  ·rename_i nb
   exact aE fun z=>nb (z▸g2)
 have hn:=(R.own l g2).1;have hi:i<τ.length:=(BM.mp e).1;refine⟨fun b o q=> ?_,fun k hk=> ?_,fun j w q z=> ?_,fun j t2 b2 zs q z ht2=> ?_,fun a b t2 t3 x y c e1 h2 e2 h3 k1 k2=> ?_⟩
 ·rw[aE (aJ q hn)]
  exact R.same b o q
 ·obtain⟨q,ws,z,mo⟩:=R.own k hk
  refine⟨q,?_⟩
  by_cases c:k=l
  ·subst c
   exact⟨o,aD,_,_,ha⟩
  ·exact⟨ws,by rw[aE c];exact z,mo⟩
 ·rw[hh]
  rcases af z with⟨rfl,z'⟩|⟨ne,z'⟩
  ·rw[<- z']at ht1
   cases ht1
  ·exact R.frz j w q z'
 ·rw[hh]
  rcases af z with⟨rfl,z'⟩|⟨ne,z'⟩
  ·subst z'
   rw[ht1]at ht2;cases ht2;exact⟨l,us,o,hl,g2,aD,ha,r⟩
  ·obtain⟨l2,ws,o2,q1,q2,q3,q4,q5⟩:=R.obs j t2 b2 zs q z' ht2
   refine⟨l2,ws,o2,q1,q2,?_,q4,q5⟩;rw[aE fun c=> ?_]
   ·exact q3
   ·subst c
    exact ne (R.dst i j t t2 _ _ l2 e ht z' ht2 hl q1)
 ·have back:∀(c:Nat)(t2:TV)(x:Bd×List PV×Bool),(τ.set i t1)[c]? =some t2->t2.ob=some x->∃(t3:TV)(y:Bd×List PV×Bool),τ[c]? =some t3/\t3.ob=some y:=fun c t2 x z h=>by
   rcases af z with⟨rfl,_⟩|⟨_,z'⟩
   ·exact⟨_,_,e,ht⟩
   ·exact⟨_,_,z',h⟩
  obtain⟨_,_,z1,w1⟩:=back a t2 x e1 h2;obtain⟨_,_,z2,w2⟩:=back b t3 y e2 h3;exact R.dst a b _ _ _ _ c z1 w1 z2 w2 k1 k2
theorem aX.upd(R:aX K Hi O τ σ H){i:Nat}{xs ys:List PV}{n m:Bool}{l:Addr}{us:List V}(e:τ[i]? =some (.own xs n))(hl:σ[i]? =some (some (.ref l)))(r:aF K Hi m ys (aN H O) us) :
  aX K Hi O (τ.set i (.own ys m)) σ (L2.upd H l (.lst us)):=R.updB (b1:=.lst) e rfl rfl hl rfl r
theorem Rp.at{n:Bool}{b:Bd}{xs:List PV}{us:List V}{o:HO}{l:Addr}{G:Hp}(hn:n=true->Hi l=none)(h:G l=some o)(ha:At b us o)(r:aF K Hi n xs (del G l) us):Rp K Hi n (b.pv xs) G (.ref l):=by
 cases b with
 | lst=>cases ha;exact Rp.lst.mpr ⟨l,us,rfl,fun z=>⟨hn z,h⟩,aj.of h,r⟩
 | dK ks =>
  obtain⟨rfl,hl⟩:=ha;show Rp K Hi n (.dK ks xs) G (.ref l);unfold Rp;exact⟨l,us,rfl,hn,h,hl,r⟩
 | dT ks =>
  obtain⟨rfl,hl⟩:=ha;show Rp K Hi n (.dT ks xs) G (.ref l);unfold Rp;exact⟨l,us,rfl,hn,h,hl,r⟩
theorem aX.freezeB(R:aX K Hi O τ σ H){i:Nat}{t:TV}{b0:Bd}{xs:List PV}{n:Bool}(e:τ[i]? =some t)(ht:t.ob=some (b0,xs,n)):∃O',aX K Hi O' (τ.set i (.frz (b0.pv xs) n)) σ H/\∀b∈O',b∈O:=by
 obtain⟨l,us,o,g1,g2,g3,g4,g5⟩:=R.obs i t b0 xs n e ht;refine⟨O.filter fun b=>decide (b≠l),?_,fun b hb=>(List.mem_filter.mp hb).1⟩;have mem:∀b,b∈O.filter (fun b=>decide (b≠l))↔b∈O/\b≠l:=fun b=>by simp
 have hs:aA (aN H O) (aN H (O.filter fun b=>decide (b≠l))):=nP fun b hb=>((mem b).mp hb).1;have hd:aA (aN H O) (del (aN H (O.filter fun b=>decide (b≠l))) l):=fun b o z=>by
  unfold aN at z
  split at z
  ·cases z
  ·rename_i nb
   have ne:b≠l:=fun c=>nb (c▸g2);unfold del aN;rw[BI ne,BI fun c=>nb ((mem b).mp c).1];exact z
 have hl:aN H (O.filter fun b=>decide (b≠l)) l=some o:=by
  unfold aN;rw[BI fun c=>((mem l).mp c).2 rfl];exact g3
 refine⟨R.same,fun b hb=>R.own b ((mem b).mp hb).1,fun j w m z=> ?_,fun j t2 b2 ys m z ht2=> ?_,fun a b t2 t3 x y c e1 h2 e2 h3 k1 k2=> ?_⟩
 ·rcases af z with⟨rfl,z'⟩|⟨ne,z'⟩
  ·cases z'
   exact⟨.ref l,g1,Rp.at (fun _=>(R.own l g2).1) hl g4 (g5.mono hd)⟩
  ·obtain⟨u,q1,q2⟩:=R.frz j w m z'
   exact⟨u,q1,q2.mono hs⟩
 ·rcases af z with⟨rfl,z'⟩|⟨ne,z'⟩
  ·subst z'
   cases ht2
  ·obtain⟨l2,ws,o2,q1,q2,q3,q4,q5⟩:=R.obs j t2 b2 ys m z' ht2
   exact⟨l2,ws,o2,q1,(mem l2).mpr ⟨q2,fun c=>by subst c;exact ne (R.dst i j _ _ _ _ l2 e ht z' ht2 g1 q1)⟩,q3,q4,q5.mono hs⟩
 ·rcases af e1 with⟨_,z⟩|⟨_,z1⟩
  ·subst z
   cases h2
  ·rcases af e2 with⟨_,z⟩|⟨_,z2⟩
   ·subst z
    cases h3
   ·exact R.dst a b t2 t3 x y c z1 h2 z2 h3 k1 k2
theorem aX.freeze(R:aX K Hi O τ σ H)(i:Nat):∃O',aX K Hi O' (jI τ i) σ H/\∀b∈O',b∈O:=by
 unfold jI;cases e:τ[i]? with
 | none=>exact⟨O,R,fun b hb=>hb⟩
 | some t =>
  cases t with
  | un=>exact⟨O,R,fun b hb=>hb⟩
  | frz v n=>exact⟨O,R,fun b hb=>hb⟩
  | own xs n=>exact R.freezeB e rfl
  | owd b xs n=>exact R.freezeB e rfl
theorem aX.freezes:∀{cap:List Nat}{O:List Addr}{τ:En},aX K Hi O τ σ H->∃O',aX K Hi O' (aw cap τ) σ H/\∀b∈O',b∈O
 | [],O,_,R=>⟨O,R,fun b hb=>hb⟩
 | i::cap,_,_,R=>by
  obtain⟨O',R',h'⟩:=R.freeze i;obtain⟨O2,R2,h2⟩:=aX.freezes (cap:=cap) R';exact⟨O2,R2,fun b hb=>h' b (h2 b hb)⟩
variable(K Hi)in
noncomputable def aR(O:List Addr)(H H' :Hp):RV->V->Prop
 | .frz v n,u=>Rp K Hi n v (aN H' O) u
 | .bor v,u=>Rp K Hi false v H' u
 | .own xs n,u=>∃p us,u=.ref p/\H p=none/\H' p=some (.lst us)/\aF K Hi n xs (aN (del H' p) O) us
 | .owd b xs n,u=>∃p us o,u=.ref p/\H p=none/\H' p=some o/\At b us o/\aF K Hi n xs (aN (del H' p) O) us
theorem aR.ext{H2:Hp}{r:RV}{u:V}(h:aR K Hi O H H' r u)(s:aA H' H2):aR K Hi O H H2 r u:=by
 cases r with
 | frz v n=>exact Rp.mono (aM s) h
 | bor v=>exact Rp.mono s h
 | own xs n =>
  obtain⟨p,us,e,h0,h1,h2⟩:=h;exact⟨p,us,e,h0,s _ _ h1,h2.mono (aM (ck s))⟩
 | owd b xs n =>
  obtain⟨p,us,o,e,h0,h1,ha,h2⟩:=h;exact⟨p,us,o,e,h0,s _ _ h1,ha,h2.mono (aM (ck s))⟩
theorem aR.back{H0:Hp}{r:RV}{u:V}(h:aR K Hi O H H' r u)(s:aA H0 H):aR K Hi O H0 H' r u:=by
 cases r with
 | frz v n=>exact h
 | bor v=>exact h
 | own xs n =>
  obtain⟨p,us,e,h0,h1,h2⟩:=h;exact⟨p,us,e,s.free h0,h1,h2⟩
 | owd b xs n =>
  obtain⟨p,us,o,e,h0,h1,ha,h2⟩:=h;exact⟨p,us,o,e,s.free h0,h1,ha,h2⟩
theorem dw{p:Addr}:aN (del H' p) O=del (aN H' O) p:=by
 funext b
 unfold aN del;dsimp only
 split<;>split<;>(try rfl)<;>simp_all
theorem aR.keep{r:RV}{u:V}{v:PV}{n:Bool}(R:aX K Hi O τ σ H)(h:aR K Hi O H H' r u)(s:aA H H')(e:r.keep=some (v,n)):Rp K Hi n v (aN H' O) u:=by
 cases r with
 | frz w m =>
  cases e;exact h
 | bor w =>
  have e:(if imm w then some (w,true)else none)=some (v,n):=e
  split at e
  ·rename_i i
   cases e;exact Rp.imm i (R.ext s).tups h
  ·cases e
 | own xs m =>
  cases e;obtain⟨p,us,e,h0,h1,h2⟩:=h;have hl:aN H' O p=some (.lst us):=by
   unfold aN;rw[BI fun z=> ?_]
   ·exact h1
   ·obtain⟨vs,e',_⟩:=(R.own p z).2
    rw[h0]at e';cases e'
  exact Rp.lst.mpr ⟨p,us,e,fun _=>⟨R.same.free h0,hl⟩,aj.of hl,by rw[<- dw];exact h2⟩
 | owd b xs m =>
  cases e;obtain⟨p,us,o,e,h0,h1,ha,h2⟩:=h;subst e;have hl:aN H' O p=some o:=by
   unfold aN;rw[BI fun z=> ?_]
   ·exact h1
   ·obtain⟨vs,e',_⟩:=(R.own p z).2
    rw[h0]at e';cases e'
  exact Rp.at (fun _=>R.same.free h0) hl ha (by rw[<- dw];exact h2)
theorem aR.val{r:RV}{u:V}(R:aX K Hi O τ σ H)(h:aR K Hi O H H' r u)(s:aA H H'):Rp K Hi false r.val H' u:=by
 cases r with
 | frz w m=>exact(Rp.mono aV h).weak
 | bor w=>exact h
 | own xs m=>exact(Rp.mono aV (h.keep R s rfl)).weak
 | owd b xs m=>exact(Rp.mono aV (h.keep R s rfl)).weak
theorem aR.its{r:RV}{u:V}{xs:List PV}{n:Bool}(R:aX K Hi O τ σ H)(h:aR K Hi O H H' r u)(s:aA H H')(e:r.its=some (xs,n)) :
  ∃p us,u=.ref p/\((aj K H' p us/\∃ys,r.val=.lst ys)\/(bI K H' p us/\∃ys,r.val=.tup ys))/\aF K Hi n xs (aN H' O) us:=by
 cases r with
 | frz w m =>
  cases w with
  | lst ys =>
   cases e;obtain⟨p,us,e,_,l,r⟩:=Rp.lst.mp h;exact⟨p,us,e,.inl ⟨(aV (O:=O)).seq l,_,rfl⟩,r.mono bB⟩
  | tup ys =>
   cases e;obtain⟨p,us,e,l,r⟩:=Rp.tup.mp h;exact⟨p,us,e,.inr ⟨(aV (O:=O)).tup l,_,rfl⟩,r⟩
  | _=>cases e
 | bor w =>
  cases w with
  | lst ys =>
   have e:(if imms ys then some (ys,true)else none)=some (xs,n):=e
   split at e
   ·rename_i i
    cases e;obtain⟨p,us,e,_,l,r⟩:=Rp.lst.mp h;exact⟨p,us,e,.inl ⟨l,_,rfl⟩,aF.imm i (R.ext s).tups (r.mono bB)⟩
   ·cases e
  | tup ys =>
   have e:(if imms ys then some (ys,true)else none)=some (xs,n):=e
   split at e
   ·rename_i i
    cases e;obtain⟨p,us,e,l,r⟩:=Rp.tup.mp h;exact⟨p,us,e,.inr ⟨l,_,rfl⟩,aF.imm i (R.ext s).tups r⟩
   ·cases e
  | _=>cases e
 | own ys m =>
  cases e;obtain⟨p,us,e,h0,h1,h2⟩:=h;exact⟨p,us,e,.inl ⟨aj.of h1,_,rfl⟩,h2.mono (aM bB)⟩
 | owd b ys m=>cases e
end
end
section
variable{K:W.Frag}{Hi:Hp}{κ:Type}[DecidableEq κ]
end
end IR
namespace IR
open PySem
structure Ct where
 N:List Str
 S:List (Str×NameKind)
 F:List (Str×Nat)
 G:List (Str×PV)
 B:List Str
 M:List Nat
noncomputable def slot:List Str->Str->Option Nat
 | [],_=>none
 | y::ys,x=>if y==x then some 0 else(slot ys x).map (·+1)
theorem cy:∀{N:List Str}{x:Str}{i:Nat},slot N x=some i->N[i]? =some x
 | [],_,_,h=>by cases h
 | y::ys,x,i,h=>by
  unfold slot at h
  split at h
  ·rename_i e
   cases h;simp[BW e]
  ·cases e:slot ys x with
   | none=>rw[e]at h;cases h
   | some j =>
    rw[e]at h;cases h
    simpa using cy e
noncomputable def zK(S:List (Str×NameKind))(x:Str):Bool:=S.lookup x==some .local||S.lookup x==some .cell||S.lookup x==some .free
noncomputable def nD(x:Str):Bool:=x==("__debug__":Str)||x==("__classdict__":Str)||x==("__name__":Str)
noncomputable def iS(ct:Ct)(x:Str):IE :=
 if nD x then .never else if zK ct.S x then(match slot ct.N x with
  | some i=>.var i
  | none=>.never)else if ct.S.lookup x==some .globalImplicit then(match ct.G.lookup x with
   | some v=>.con v
   | none=>.never)else .never
noncomputable def bP:Expr->Bool
 | .Set .. =>true
 | _=>false
noncomputable def mz:CmpOp->Bool
 | .Lt=>true| .LtE=>true| .Gt=>true| .GtE=>true| .Eq=>true| .NotEq=>true|_=>false
noncomputable def nN:Expr->Bool
 | .Slice .. =>true
 | _=>false
noncomputable def isStar:Expr->Bool
 | .Starred .. =>true
 | _=>false
noncomputable def lM:Expr->Bool
 | .Name .. =>true
 | .Constant .. =>true
 | _=>false
noncomputable def iT:Const->IE
 | .int i=>.con (.int i)
 | .bool b=>.con (.bl b)
 | .str z=>.con (.str z)
 | .none=>.con .non
 | _=>.never
noncomputable def gX(op:BoolOp):List IE->IE
 | []=>.never
 | [a]=>a
 | a::b::r=>match op with
  | .And=>.and a (gX op (b::r))
  | .Or=>.or a (gX op (b::r))
noncomputable def gW(op:BoolOp):List IC->IC
 | []=>.val .never
 | [a]=>a
 | a::b::r=>match op with
  | .And=>.and a (gW op (b::r))
  | .Or=>.or a (gW op (b::r))
noncomputable def kx(x:Str)(k:Nat):Option Bf :=
 if x==("len":Str)&&k==1 then some .len else if x==("int":Str)&&k==1 then some .int else if x==("list":Str)&&k==1 then some .list else if x==("tuple":Str)&&k==1 then some .tuple
 else if x==("all":Str)&&k==1 then some .all else if x==("min":Str)&&k==2 then some .min else if x==("max":Str)&&k==2 then some .max else if x==("abs":Str)&&k==1 then some .abs
 else if x==("any":Str)&&k==1 then some .any else if x==("sum":Str)&&k==1 then some .sum else if x==("sorted":Str)&&k==1 then some .sorted else none
noncomputable def oy(x:Str)(k:Nat):Option Bf:=kx x k
noncomputable def pU(x:Str):Option String :=
 if x==("int":Str)then some "int" else if x==("bool":Str)then some "bool" else if x==("str":Str)then some "str" else if x==("list":Str)then some "list" else if x==("tuple":Str)then some "tuple" else none
noncomputable def own(ct:Ct)(x:Str):Bool:=ct.B.contains x&&ct.S.lookup x==some .globalImplicit
noncomputable def jO:Expr->Option (Str×List Expr)
 | .Call (.Name x _) es [] _=>some (x,es)
 | _=>none
noncomputable def qE(S names:List (Str×NameKind)):List (Str×NameKind):=names.map fun(n,k)=>if(k== .free&&true&&S.lookup n==some .cell)then(n,.cell)else(n,k)
noncomputable def frees(scope:Scope):List Str:=(scope.names.filter fun y=>y.2== .free).map (·.1)
noncomputable def slots(N:List Str):List Str->Option (List Nat)
 | []=>some []
 | x::xs=>(slot N x).bind fun i=>(slots N xs).map (i::·)
noncomputable def oV(ct:Ct)(t:Str)(scope:Scope):Bool :=
 scope.kind== .function&&(scope.names.all fun y=> !(y.2== .cell)||scope.names.lookup y.1==some .cell)&&(scope.names.all fun y=> !(y.2== .local)||scope.names.lookup y.1==some .local) &&
 (scope.names.all fun y=> !(y.2== .free)||(ct.S.lookup y.1==some .cell||ct.S.lookup y.1==some .free))&&decide (t::frees scope).Nodup&&(scope.names.lookup t==some .local||scope.names.lookup t==some .cell) &&
 (frees scope).all fun x=>scope.names.lookup x==some .free
noncomputable def blk(ct:Ct)(t:Str)(scope:Scope):Ct:=⟨t::frees scope,qE ct.S scope.names,ct.F,ct.G,ct.B,[]⟩
noncomputable def oR:List IE->fj
 | []=>.nil
 | e::es=>.cons e (oR es)
mutual
noncomputable def aa:Nat->Ct->Expr->IE
 | 0,_,_=>.never
 | n+1,ct,e=>match e with
  | .Constant c _ _=>iT c
  | .Name x _=>iS ct x
  | .BinOp a op b _=>.bin op (aa n ct a) (aa n ct b)
  | .UnaryOp op a _=>match op with
   | .USub=>.neg (aa n ct a)
   | .Not=>.not (aa n ct a)
   | _=>.never
  | .Compare a ops cs _=>match ops,cs with
   | [op],[b]=>if bP b then .never else .cmp op (aa n ct a) (aa n ct b)
   | [op,op'],[b,c]=>if bP c|| !mz op' then .never else .chn op op' (aa n ct a) (aa n ct b) (aa n ct c)
   | _,_=>.never
  | .BoolOp op vs _=>if vs.length<2 then .never else gX op (vs.map (aa n ct))
  | .IfExp c a b _=>.ite (iU n ct c) (aa n ct a) (aa n ct b)
  | .List es _=>.lst (dg n ct es)
  | .Tuple es _ _=>.tup (dg n ct es)
  | .Dict ks vs _=>match ks,vs with
   | [],[]=>.dnew
   | [some (.Constant c _ _)],[v]=>match c with
    | .int i=>.dlit (.inl i) (aa n ct v)
    | .str z=>.dlit (.inr z) (aa n ct v)
    | _=>.never
   | _,_=>.never
  | .Subscript a i _=>match i with
   | .Slice lo hi st _=>match st with
    | none=>.sl (aa n ct a) (vw n ct lo) (vw n ct hi)
    | some _=>.never
   | i=>.ix (aa n ct a) (aa n ct i)
  | .Call f es ks cp=>match ks with
   | []=>match f with
    | .Name x _=>eG n ct x es
    | .Attribute o m ap=>if ap.endLine==cp.line then hV n ct o m es else .never
    | _=>.never
   | _=>.never
  | .ListComp elt gs scope _=>match gs with
   | [⟨.Name t _,iter,ifs,0⟩]=>if oV ct t scope then(match slots ct.N (frees scope)with
    | some caps=>.lc (aa n (blk ct t scope) elt) (tf n ct false iter) (match ifs with
     | []=>.no
     | [c]=>.yes (iU n (blk ct t scope) c)
     | _=>.yes (.val .never)) caps
    | none=>.never)else .never
   | _=>.never
  | _=>.never
noncomputable def dg:Nat->Ct->List Expr->fj
 | 0,_,_=>.cons .never .nil
 | n+1,ct,es=>oR (es.map fun e=>if isStar e then .never else aa n ct e)
noncomputable def vw:Nat->Ct->Option Expr->IO
 | 0,_,_=>.yes .never
 | n+1,ct,e=>match e with
  | none=>.no
  | some e=>.yes (aa n ct e)
noncomputable def iU:Nat->Ct->Expr->IC
 | 0,_,_=>.val .never
 | n+1,ct,e=>match e with
  | .UnaryOp op a p=>match op with
   | .Not=>.not (iU n ct a)
   | op=>.val (aa n ct (.UnaryOp op a p))
  | .BoolOp op vs _=>gW op (vs.map (iU n ct))
  | .IfExp _ _ _ _=>.val .never
  | e=>.val (aa n ct e)
noncomputable def eG:Nat->Ct->Str->List Expr->IE
 | 0,_,_,_=>.never
 | n+1,ct,x,es=>if nD x then .never else if ct.S.lookup x==some .globalImplicit then(match ct.F.lookup x with
  | some f=>match es with
   | []=>.never
   | es=>.call f (dg n ct es)
  | none=>if ct.B.contains x then(if x==("isinstance":Str)then(match es with
    | [a,.Name t _]=>match pU t with
     | some ty=>if isStar a then .never else if own ct t then .bf (.isin ty) (.cons (aa n ct a) .nil)else .never
     | none=>.never
    | _=>.never)else match es with
     | es=>match oy x es.length with
      | some f=>.bf f (dg n ct es)
      | none=>.never)else .never)else .never
noncomputable def hV:Nat->Ct->Expr->Str->List Expr->IE
 | 0,_,_,_,_=>.never
 | n+1,ct,o,m,es=>if lM o then(match es with
  | [a]=>if isStar a then .never else if m==("join":Str)then .mth .join (aa n ct o) (.cons (aa n ct a) .nil)else .never
  | _=>.never)else .never
noncomputable def tf:Nat->Ct->Bool->Expr->IT
 | 0,_,_,_=>.never
 | n+1,ct,tp,e=>if bP e then .never else match jO e with
  | some (x,es)=>if x==("range":Str)then(if own ct x then .rng (dg n ct es)else .never)else if x==("zip":Str)then(match es with
    | [a,b]=>if isStar a||isStar b|| !tp|| !own ct x then .never else .zip (aa n ct a) (aa n ct b)
    | _=>.never)else if x==("enumerate":Str)then .never else .seq (aa n ct e)
  | none=>.seq (aa n ct e)
end
noncomputable def g9:Nat->Ct->Expr->List Nat
 | 0,_,_=>[]
 | n+1,ct,e=>match e with
  | .Name x _=>(slot ct.N x).toList
  | .List es _=>es.flatMap (g9 n ct)
  | .Tuple es _ _=>es.flatMap (g9 n ct)
  | .IfExp _ a b _=>g9 n ct a++g9 n ct b
  | _=>[]
noncomputable def gz:Nat->Ct->Expr->List Nat
 | 0,_,_=>[]
 | n+1,ct,e=>match e with
  | .Name x _=>(slot ct.N x).toList
  | .List es _=>es.flatMap (gz n ct)
  | .Tuple es _ _=>es.flatMap (gz n ct)
  | .BinOp a _ b _=>gz n ct a++gz n ct b
  | .IfExp _ a b _=>gz n ct a++gz n ct b
  | .Call (.Name x _) es _ _=>if x==("tuple":Str)||x==("list":Str)||x==("sorted":Str)then es.flatMap (gz n ct)else[]
  | .ListComp _ gs _ _=>gs.flatMap fun g=>gz n ct g.iter
  | _=>[]
noncomputable def Am(ct:Ct)(x:Str)(e:Expr):List Nat:=match e with
 | .BinOp (.Name y _) .Add _ _=>if y==x then(slot ct.N x).toList else[]
 | _=>[]
noncomputable def An(n:Nat)(ct:Ct)(e:Expr):List Nat:=match jO e with
 | some (x,es)=>if x==("zip":Str)||x==("enumerate":Str)||x==("reversed":Str)then es.flatMap (g9 n ct)else[]
 | none=>g9 n ct e
noncomputable def loc(ct:Ct)(x:Str):Option Nat:=if(ct.S.lookup x==some .local||ct.S.lookup x==some .cell)&& !nD x then slot ct.N x else none
noncomputable def rS:Expr->Bool
 | .ListComp .. =>true
 | .SetComp .. =>true
 | .DictComp .. =>true
 | _=>false
noncomputable def qI:Option Expr->Option Expr->Option Str
 | some (.Call (.Name x _) [] [] _),none=>some x
 | _,_=>none
noncomputable def locs(ct:Ct):List Expr->Option (List Nat)
 | []=>some []
 | .Name x _::es=>(loc ct x).bind fun i=>(locs ct es).map (i::·)
 | _::_=>none
noncomputable def pZ(ct:Ct):Expr->Option (List Nat×Bool)
 | .Name x _=>(loc ct x).map fun i=>([i],true)
 | .Tuple es _ _=>(locs ct es).map fun is=>(is,false)
 | _=>none
mutual
noncomputable def lA:Nat->Ct->Stmt->IS
 | 0,_,_=>.never
 | n+1,ct,s=>match s with
  | .Return v _=>match v with
   | some e=>.ret (gz n ct e) (aa n ct e)
   | none=>.retN
  | .Assign ts e _=>match ts with
   | [.Name x _]=>match loc ct x with
    | some i=>.asg i (ct.M.contains i) (Am ct x e++g9 n ct e) (aa n ct e)
    | none=>.never
   | _=>.never
  | .If c a b _=>.ife (iU n ct c) (dE n ct a) (dE n ct b)
  | .For tg it body els _=>match els with
   | []=>match pZ ct tg with
    | some (is,one)=>.forr is one (An n ct it) (tf n ct (!one) it) (dE n ct body)
    | none=>.never
   | _=>.never
  | .While c body els _=>match els with
   | []=>.whil (iU n ct c) (dE n ct body)
   | _=>.never
  | .Pass _=>.pass
  | .Break _=>.brk
  | .Continue _=>.cont
  | .Expr e _=>match e with
   | .Call (.Attribute (.Name x _) m ap) es [] cp=>if ap.endLine==cp.line then(match loc ct x with
    | some i=>(match es with
     | [a]=>if isStar a then .never else if m==("append":Str)then .app i (g9 n ct a) (aa n ct a)else .never
     | _=>.never)
    | none=>.never)else .never
   | _=>.never
  | .Raise e c _=>match qI e c with
   | some x=>if ct.S.lookup x==some .globalImplicit&& !nD x then .rais x else .never
   | none=>.never
  | _=>.never
noncomputable def dE:Nat->Ct->List Stmt->mQ
 | 0,_,_=>.cons .never .nil
 | n+1,ct,ss=>match ss with
  | []=>.nil
  | s::ss=>.cons (lA n ct s) (dE n ct ss)
end
section
set_option autoImplicit true
set_option relaxedAutoImplicit true
variable{n:Nat}{ct:Ct}
theorem jl:aa 0 w0 w1=.never:=rfl
theorem jg:aa (n+1) ct (.Constant c w1 w2)=(iT c):=rfl
theorem jb:aa (n+1) ct (.Name x w1)=(iS ct x):=rfl
theorem jk:aa (n+1) ct (.BinOp a op b w1)=(.bin op (aa n ct a) (aa n ct b)):=rfl
theorem jY:aa (n+1) ct (.UnaryOp op a w1)=(match op with
   | .USub=>.neg (aa n ct a)
   | .Not=>.not (aa n ct a)
   | _=>.never):=rfl
theorem jh:aa (n+1) ct (.Compare a ops cs w1)=(match ops,cs with
   | [op],[b]=>if bP b then .never else .cmp op (aa n ct a) (aa n ct b)
   | [op,op'],[b,c]=>if bP c|| !mz op' then .never else .chn op op' (aa n ct a) (aa n ct b) (aa n ct c)
   | _,_=>.never):=rfl
theorem jj:aa (n+1) ct (.BoolOp op vs w1)=(if vs.length<2 then .never else gX op (vs.map (aa n ct))):=rfl
theorem je:aa (n+1) ct (.IfExp c a b w1)=(.ite (iU n ct c) (aa n ct a) (aa n ct b)):=rfl
theorem jd:aa (n+1) ct (.List es w1)=(.lst (dg n ct es)):=rfl
theorem jZ:aa (n+1) ct (.Tuple es w1 w2)=(.tup (dg n ct es)):=rfl
theorem jf:aa (n+1) ct (.Dict ks vs w1)=(match ks,vs with
   | [],[]=>.dnew
   | [some (.Constant c _ _)],[v]=>match c with
    | .int i=>.dlit (.inl i) (aa n ct v)
    | .str z=>.dlit (.inr z) (aa n ct v)
    | _=>.never
   | _,_=>.never):=rfl
theorem ja:aa (n+1) ct (.Subscript a i w1)=(match i with
   | .Slice lo hi st _=>match st with
    | none=>.sl (aa n ct a) (vw n ct lo) (vw n ct hi)
    | some _=>.never
   | i=>.ix (aa n ct a) (aa n ct i)):=rfl
theorem ji:aa (n+1) ct (.Call f es ks cp)=(match ks with
   | []=>match f with
    | .Name x _=>eG n ct x es
    | .Attribute o m ap=>if ap.endLine==cp.line then hV n ct o m es else .never
    | _=>.never
   | _=>.never):=rfl
theorem jc:aa (n+1) ct (.ListComp elt gs scope w1)=(match gs with
   | [⟨.Name t _,iter,ifs,0⟩]=>if oV ct t scope then(match slots ct.N (frees scope)with
    | some caps=>.lc (aa n (blk ct t scope) elt) (tf n ct false iter) (match ifs with
     | []=>.no
     | [c]=>.yes (iU n (blk ct t scope) c)
     | _=>.yes (.val .never)) caps
    | none=>.never)else .never
   | _=>.never):=rfl
theorem z20:dg 0 w0 w1=.cons .never .nil:=rfl
theorem z21:dg (n+1) ct es=(oR (es.map fun e=>if isStar e then .never else aa n ct e)):=rfl
theorem z24:vw 0 w0 w1=.yes .never:=rfl
theorem z25:vw (n+1) ct (none)=(.no):=rfl
theorem z26:vw (n+1) ct (some e)=(.yes (aa n ct e)):=rfl
theorem zH:iU 0 w0 w1=.val .never:=rfl
theorem zE:iU (n+1) ct (.UnaryOp op a p)=(match op with
   | .Not=>.not (iU n ct a)
   | op=>.val (aa n ct (.UnaryOp op a p))):=rfl
theorem zG:iU (n+1) ct (.BoolOp op vs w1)=(gW op (vs.map (iU n ct))):=rfl
theorem zF:iU (n+1) ct (.IfExp w1 w2 w3 w4)=(.val .never):=rfl
theorem z1g:eG 0 w0 w1 w2=.never:=rfl
theorem z1h:eG (n+1) ct x es=(if nD x then .never else if ct.S.lookup x==some .globalImplicit then(match ct.F.lookup x with
  | some f=>match es with
   | []=>.never
   | es=>.call f (dg n ct es)
  | none=>if ct.B.contains x then(if x==("isinstance":Str)then(match es with
    | [a,.Name t _]=>match pU t with
     | some ty=>if isStar a then .never else if own ct t then .bf (.isin ty) (.cons (aa n ct a) .nil)else .never
     | none=>.never
    | _=>.never)else match es with
     | es=>match oy x es.length with
      | some f=>.bf f (dg n ct es)
      | none=>.never)else .never)else .never):=rfl
theorem z22:hV 0 w0 w1 w2 w3=.never:=rfl
theorem z23:hV (n+1) ct o m es=(if lM o then(match es with
  | [a]=>if isStar a then .never else if m==("join":Str)then .mth .join (aa n ct o) (.cons (aa n ct a) .nil)else .never
  | _=>.never)else .never):=rfl
theorem z2l:tf 0 w0 w1 w2=.never:=rfl
theorem z2m:tf (n+1) ct tp e=(if bP e then .never else match jO e with
  | some (x,es)=>if x==("range":Str)then(if own ct x then .rng (dg n ct es)else .never)else if x==("zip":Str)then(match es with
    | [a,b]=>if isStar a||isStar b|| !tp|| !own ct x then .never else .zip (aa n ct a) (aa n ct b)
    | _=>.never)else if x==("enumerate":Str)then .never else .seq (aa n ct e)
  | none=>.seq (aa n ct e)):=rfl
theorem pG:lA 0 w0 w1=.never:=rfl
theorem o7:lA (n+1) ct (.Return v w1)=(match v with
   | some e=>.ret (gz n ct e) (aa n ct e)
   | none=>.retN):=rfl
theorem pF:lA (n+1) ct (.Assign ts e w1)=(match ts with
   | [.Name x _]=>match loc ct x with
    | some i=>.asg i (ct.M.contains i) (Am ct x e++g9 n ct e) (aa n ct e)
    | none=>.never
   | _=>.never):=rfl
theorem pA:lA (n+1) ct (.If c a b w1)=(.ife (iU n ct c) (dE n ct a) (dE n ct b)):=rfl
theorem pB:lA (n+1) ct (.For tg it body els w1)=(match els with
   | []=>match pZ ct tg with
    | some (is,one)=>.forr is one (An n ct it) (tf n ct (!one) it) (dE n ct body)
    | none=>.never
   | _=>.never):=rfl
theorem o6:lA (n+1) ct (.While c body els w1)=(match els with
   | []=>.whil (iU n ct c) (dE n ct body)
   | _=>.never):=rfl
theorem o9:lA (n+1) ct (.Pass w1)=(.pass):=rfl
theorem pE:lA (n+1) ct (.Break w1)=(.brk):=rfl
theorem pD:lA (n+1) ct (.Continue w1)=(.cont):=rfl
theorem pC:lA (n+1) ct (.Expr e w1)=(match e with
   | .Call (.Attribute (.Name x _) m ap) es [] cp=>if ap.endLine==cp.line then(match loc ct x with
    | some i=>(match es with
     | [a]=>if isStar a then .never else if m==("append":Str)then .app i (g9 n ct a) (aa n ct a)else .never
     | _=>.never)
    | none=>.never)else .never
   | _=>.never):=rfl
theorem o8:lA (n+1) ct (.Raise e c w1)=(match qI e c with
   | some x=>if ct.S.lookup x==some .globalImplicit&& !nD x then .rais x else .never
   | none=>.never):=rfl
theorem z27:dE 0 w0 w1=.cons .never .nil:=rfl
theorem z29:dE (n+1) ct ([])=(.nil):=rfl
theorem z28:dE (n+1) ct (s::ss)=(.cons (lA n ct s) (dE n ct ss)):=rfl
end
end IR
namespace L2
open PySem PySem.Spec PyProof.Rows
section
variable{X:Cx}
theorem nA:cO X (binaryOp .Add) (fun x y H Q=>∃(l b:Addr)(xs zs:List V),x=.ref l/\y=.ref b/\aj X.K H l xs/\aj X.K H b zs/\xs.length+zs.length<=sizeLine/\∀p,H p=none->Q (.ref p) (upd H p (.lst (xs++zs)))):=by
 intro pins s σ H x y v u Q I rx ry h;obtain⟨l,b,xs,zs,rfl,rfl,hH,hB,hz,q⟩:=h;cases rx;cases ry;obtain⟨its,r,pl,_⟩:=I.list hH;obtain⟨its2,r2,pl2,_⟩:=I.list hB;have hl:=r.length;have hl2:=r2.length;obtain⟨⟨cls,dd,data,sl⟩,ho,hc,n,hd⟩:=id pl.isList;obtain⟨⟨cls2,dd2,data2,sl2⟩,ho2,hc2,n2,hd2⟩:=id pl2.isList;simp only at hc hd hc2 hd2;subst hc hd hc2 hd2;have e:its.toArray++its2.toArray=(its++its2).toArray:=by simp
 refine concat_meets ⟨_,ho,rfl⟩ ⟨_,ho2,rfl⟩ noFill_list_add seq_list_add PySem.F.slot_list_add PySem.F.entry_list_add (PySem.F.args_list_add_2 _ _) (list_addW l b its.toArray its2.toArray n n2 dd dd2 sl sl2 (by rw[BH,BH];omega)) ⟨ho,ho2,?_⟩;rw[e];exact⟨.ref _,_,I.lnew (t' :=s.toks) (r.append r2) (by rw[BL];omega),rfl,q _ I.fresh⟩
theorem ue:cO X (binaryOp .Add) (fun x y H Q=>∃(a b:Addr)(xs ys:List V),x=.ref a/\y=.ref b/\bI X.K H a xs/\bI X.K H b ys/\xs.length+ys.length<=sizeLine/\∀p H',aA H H' ->bI X.K H' p (xs++ys)->Q (.ref p) H'):=by
 intro pins s σ H x y u v Q I rx ry h;obtain⟨a,b,xs,ys,rfl,rfl,ha,hb,hz,q⟩:=h
 by_cases hx:xs=[]
 ·subst hx
  cases rx;cases ry;obtain⟨its,r1,p1,_⟩:=I.tuple ha;obtain⟨its2,r2,p2,_⟩:=I.tuple hb;cases r1;obtain⟨⟨cls,dd,data,sl⟩,ho,hc,n,hd⟩:=id p1;obtain⟨⟨cls2,dd2,data2,sl2⟩,ho2,hc2,n2,hd2⟩:=id p2;simp only at hc hd hc2 hd2;subst hc hd hc2 hd2
  exact concat_meets ⟨_,ho,rfl⟩ ⟨_,ho2,rfl⟩ noFill_tuple_add seq_tuple_add PySem.F.slot_tuple_add PySem.F.entry_tuple_add (DJ _ _)
   (tuple_addW0 a b #[] its2.toArray n n2 dd dd2 sl sl2 rfl) ⟨ho,ho2,⟨.ref b,H,I,rfl,q b H (aA.refl H) hb⟩⟩
 ·refine uf pins s σ H (.ref a) (.ref b) u v Q I rx ry ⟨a,b,xs,ys,rfl,rfl,ha,hb,hx,hz,fun e=> ?_,fun _ p hp=>q p _ (aP hp _) (bI.of aD)⟩
  subst e;exact q a H (aA.refl H) (by rw[Bz];exact ha)
theorem tw:yz X (fun x lo hi H Q=>∃a xs,x=.ref a/\bI X.K H a xs/\(HT.au xs.length 0 lo=0/\HT.au xs.length xs.length hi=xs.length)/\Q (.ref a) H):=by
 intro pins s σ H x v vl vu lo hi sl Q I rx hs pl pu h;obtain⟨a,xs,rfl,hx,hw,q⟩:=h;cases rx;obtain⟨its,r,ht,hz⟩:=I.tuple hx;have hlen:its.toArray.size=xs.length:=by rw[BH];exact r.length.symm
 refine⟨"tuple",_,Bu.lookup,ht.typeIs,?_⟩;obtain⟨os,hos,hcs,hds⟩:=id hs;have hTs:s.TypeIs (.ref sl) "slice":=⟨os,hos,hcs⟩;unfold getItem
 try with_reducible refine B2 ?_
 first|refine A8 (BG ?_)|skip
 refine A8 (wpAny_sequenceKey ht.typeIs (by decide) ?_)
 refine A8 (wpAny_callSpecial?_slot (name:=Str.ofString "__getitem__") ht.typeIs Bu
  (wpAny_call_entry Bu ht.typeIs entry_tuple_getitem ?_ (args_tuple_getitem _ _)))
 show wpAny _ _ (Builtin.Tuple.tupleItemsOf (.ref a) >>= _) _ _ s;refine A8 (tupleItemsOf_ ht ?_);refine A8 (wpAny_typeOf hTs ?_);rw[BK (by decide)];refine A8 (HT.cF hs pl pu ?_);rw[<- hlen]at hw;show wpAny _ _ (if(((HT.au its.toArray.size 0 lo:Nat):Int)==0&&(1:Int)==1&&(HT.au its.toArray.size its.toArray.size hi-HT.au its.toArray.size 0 lo)==its.toArray.size)=true then _ else _) _ _ s;rw[BK (by rw[hw.1,hw.2];simp)];unfold Builtin.Tuple.tupleIsExact;refine A8 (A8 (wpAny_typeOf ht.typeIs (BG ?_)));rw[BK (by decide)];exact A8 (wpAny_rule (BG ⟨_,rfl,BG ⟨.ref a,H,I,rfl,q⟩⟩))
end
end L2
namespace IR
open PySem PySem.Spec PyProof.Rows L2
noncomputable abbrev WE(X:Cx)(e:Expr)(σ:L2.St)(H:Hp)(Q:VK):Prop:=∀(pins:List (Addr×Obj))(s:Shared),Inv X pins σ H s->wpAny (model X.prog X.w) X.A (eval e X.env) (EP X pins σ Q) X.xe s
noncomputable abbrev WT(X:Cx)(e:Expr)(σ:L2.St)(H:Hp)(Q:Bool->Hp->Prop):Prop:=∀(pins:List (Addr×Obj))(s:Shared),Inv X pins σ H s->wpAny (model X.prog X.w) X.A (isTrue e X.env (eval e X.env)) (TP X pins σ Q) X.xe s
noncomputable abbrev WA(X:Cx)(es:List Expr)(σ:L2.St)(H:Hp)(Q:List V->Hp->Prop):Prop:=∀(pos:Pos)(pins:List (Addr×Obj))(s:Shared),Inv X pins σ H s->wpAny (model X.prog X.w) X.A (spliced (backTo pos (starEach es X.env))) (AP X pins σ Q) X.xe s
theorem aS{X:Cx}{e:Expr}:PE X e (fun σ H Q=>WE X e σ H Q):=fun pins s σ H Q I h=>h pins s I
theorem gq{X:Cx}{e:Expr}:PT X e (fun σ H Q=>WT X e σ H Q):=fun pins s σ H Q I h=>h pins s I
theorem lS{X:Cx}{e:List Expr}:PA X e (fun σ H Q=>WA X e σ H Q):=fun pos pins s σ H Q I h=>h pos pins s I
theorem we{X:Cx}{e:Expr}{t:TE}{σ:L2.St}{H:Hp}{Q:VK}(h:PE X e t)(q:t σ H Q):WE X e σ H Q:=fun pins s I=>h pins s σ H Q I q
theorem wt{X:Cx}{e:Expr}{t:TT}{σ:L2.St}{H:Hp}{Q:Bool->Hp->Prop}(h:PT X e t)(q:t σ H Q):WT X e σ H Q:=fun pins s I=>h pins s σ H Q I q
theorem wa{X:Cx}{e:List Expr}{t:TA}{σ:L2.St}{H:Hp}{Q:List V->Hp->Prop}(h:PA X e t)(q:t σ H Q):WA X e σ H Q:=fun pos pins s I=>h pos pins s σ H Q I q
noncomputable def mX(K:W.Frag)(m:List PV->Option PV):Sp:=fun vs H Q _=>∃pvs r,aF K H false pvs H vs/\m pvs=some r/\∀u H',aA H H' ->Rp K H true r H' u->Q u H'
structure bG(cd:Nat->List PV->Option PV)(X:Cx)(ct:Ct):Prop where
 N:X.N=ct.N
 nd:ct.N.Nodup
 S:X.env.scope.names=ct.S
 kind:X.env.scope.kind=.function
 calm:X.calm=true
 glob:∀x v,ct.G.lookup x=some v->∃u w,X.mg x=some u/\RelV w u/\∀Hi n H,Rp X.K Hi n v H w
 bl:∀x,ct.B.contains x=true->X.mg x=none
 fns:∀x f,ct.F.lookup x=some f->∃k a fd ps,ah X.prog X.w X.K X.mg X.base cY k a fd ps (mX X.K (cd f))/\bE k X.A/\X.mg x=some (.ref a)/\W.keepIn X.K (.ref a)=true/\Binds X.K fd ps []
 xe:PassesOwn (model X.prog X.w) X.A X.env X.xe
 un:X.A.units+64<cLine
section
variable{X:Cx}{Hi:Hp}{τ:En}
variable(X Hi τ)in
noncomputable def aG(e:Expr)(r:RV):Prop:=∀(O:List Addr)(σ:L2.St)(H:Hp)(Q:VK),aX X.K Hi O τ σ H->(∀u H',aA H H' ->aR X.K Hi O H H' r u->Q u H')->WE X e σ H Q
variable(X Hi τ)in
noncomputable def cW(e:Expr)(b:Bool):Prop:=∀(O:List Addr)(σ:L2.St)(H:Hp)(Q:Bool->Hp->Prop),aX X.K Hi O τ σ H->(∀H',aA H H' ->Q b H')->WT X e σ H Q
variable(X Hi)in
noncomputable def bQ(O:List Addr)(H H' :Hp):List RV->List V->Prop
 | [],us=>us=[]
 | r::rs,us=>∃u vs,us=u::vs/\aR X.K Hi O H H' r u/\bQ O H H' rs vs
variable(X Hi τ)in
noncomputable def jU(es:List Expr)(rs:List RV):Prop:=∀(O:List Addr)(σ:L2.St)(H:Hp)(Q:List V->Hp->Prop),aX X.K Hi O τ σ H->(∀us H',aA H H' ->bQ X Hi O H H' rs us->Q us H')->WA X es σ H Q
theorem cT:sizeLine=16777216:=Bw
theorem bQ.ext{O:List Addr}{H H' H2:Hp}(s:aA H' H2):∀{rs:List RV}{us:List V},bQ X Hi O H H' rs us->bQ X Hi O H H2 rs us
 | [],_,h=>h
 | r::rs,_,h=>by
  obtain⟨u,vs,e,a,b⟩:=h;exact⟨u,vs,e,a.ext s,bQ.ext s b⟩
theorem bQ.back{O:List Addr}{H0 H H' :Hp}(s:aA H0 H):∀{rs:List RV}{us:List V},bQ X Hi O H H' rs us->bQ X Hi O H0 H' rs us
 | [],_,h=>h
 | r::rs,_,h=>by
  obtain⟨u,vs,e,a,b⟩:=h;exact⟨u,vs,e,a.back s,bQ.back s b⟩
theorem bQ.vals{O:List Addr}{σ:L2.St}{H H' :Hp}(R:aX X.K Hi O τ σ H)(s:aA H H'):∀{rs:List RV}{us:List V},bQ X Hi O H H' rs us->aF X.K Hi false (rs.map RV.val) H' us
 | [],_,h=>by cases h;exact .nil
 | r::rs,_,h=>by
  obtain⟨u,vs,rfl,a,b⟩:=h;exact .cons (a.val R s) (bQ.vals R s b)
theorem bQ.keeps{O:List Addr}{σ:L2.St}{H H' :Hp}(R:aX X.K Hi O τ σ H)(s:aA H H'):∀{rs:List RV}{us:List V}{vs:List PV}{n:Bool},bQ X Hi O H H' rs us->IR.keeps rs=some (vs,n)->aF X.K Hi n vs (aN H' O) us
 | [],_,_,_,h,e=>by cases h;cases e;exact .nil
 | r::rs,_,vs,n,h,e=>by
  obtain⟨u,ws,rfl,a,b⟩:=h;unfold IR.keeps at e;cases hk:r.keep with
  | none=>rw[hk]at e;cases e
  | some p =>
   obtain⟨v,n1⟩:=p;rw[hk]at e;cases hs:IR.keeps rs with
   | none=>rw[hs]at e;cases e
   | some p =>
    obtain⟨vs',n2⟩:=p;rw[hs]at e;cases e;refine .cons ((a.keep R s hk).low fun z=> ?_) ((bQ.keeps R s b hs).low fun z=> ?_)
    ·rw[BB]at z;exact z.1
    ·rw[BB]at z;exact z.2
theorem dI{v:PV}{u:V}{O:List Addr}{H H' :Hp}(h:∀G,Rp X.K Hi true v G u):aR X.K Hi O H H' (sc v) u:=h _
theorem sS{c:Const}{k:Nat}{pos:Pos}{r:RV}{cd:Nat->List PV->Option PV}(h:aL cd (iT c) τ=some r):aG X Hi τ (.Constant c k pos) r:=by
 intro O σ H Q R q;cases c with
 | int i =>
  cases h;exact we bw (q _ _ (aA.refl _) (dI fun _=>Rp.int.mpr rfl))
 | bool b =>
  cases h;exact we dr (q _ _ (aA.refl _) (dI fun _=>Rp.bl.mpr rfl))
 | str b =>
  cases h;exact we lQ (q _ _ (aA.refl _) (dI fun _=>Rp.str.mpr rfl))
 | none =>
  cases h;exact we qf (q _ _ (aA.refl _) (dI fun _=>Rp.non.mpr rfl))
 | _=>cases h
theorem pS{S:List (Str×NameKind)}{sc:Scope}(e:sc.names=S){x:Str}(h:zK S x=true):Au sc x:=by
 unfold zK at h;unfold Au;rw[e]
 simpa [CH,or_assoc]using h
theorem bX{x:Str}(h:nD x=false):(x==("__debug__":Str))=false/\(x==("__classdict__":Str))=false/\x≠"__name__":=by
 unfold nD at h;simp only[Bool.or_eq_false_iff]at h;exact⟨h.1.1,h.1.2,fun e=>by rw[e]at h;simp at h⟩
theorem uo{cd:Nat->List PV->Option PV}{ct:Ct}(C:bG cd X ct){x:Str}{pos:Pos}{r:RV}(h:aL cd (iS ct x) τ=some r):aG X Hi τ (.Name x pos) r:=by
 intro O σ H Q R q;unfold iS at h
 split at h
 ·simp[bL,bN,bK,cB,bj,bu,bo,b9,bt,cC,bZ,bn,bg,bh,bc,cD,cE,ba,bW,bi,cA]at h
 rename_i ho;obtain⟨o1,o2,o3⟩:=bX (Bx.mpr ho)
 split at h
 ·rename_i hv
  cases hs:slot ct.N x with
  | none=>rw[hs]at h;simp[bL,bN,bK,cB,bj,bu,bo,b9,bt,cC,bZ,bn,bg,bh,bc,cD,cE,ba,bW,bi,cA]at h
  | some i =>
   rw[hs]at h;have h:dF τ i=some r:=by simpa [bL,bN,bK,cB,bj,bu,bo,b9,bt,cC,bZ,bn,bg,bh,bc,cD,cE,ba,bW,bi,cA]using h
   refine we (lO (by rw[C.N];exact cy hs) (pS C.S hv) o1 o2) ?_;unfold dF at h;cases ht:τ[i]? with
   | none=>rw[ht]at h;cases h
   | some t =>
    rw[ht]at h;cases t with
    | un=>cases h
    | frz v n =>
     cases h;obtain⟨u,h1,h2⟩:=R.frz i v n ht;exact⟨u,h1,q u H (aA.refl _) h2⟩
    | own xs n =>
     cases h;obtain⟨l,us,h1,h2,h3,h4⟩:=R.owns i xs n ht;refine⟨_,h1,q _ H (aA.refl _) ?_⟩;refine Rp.lst.mpr ⟨l,us,rfl,(fun z=>absurd z BC),aj.of h3,h4.weak.mono fun b o e=> ?_⟩;unfold aN at e
     split at e
     ·cases e
     ·rename_i nb
      unfold del;have ne:b≠l:=fun z=>nb (z▸h2);rw[BI ne];exact e
    | owd b xs n =>
     cases h;obtain⟨l,us,o,h1,h2,h3,ha,h4⟩:=R.obs i _ b xs n ht rfl;refine⟨_,h1,q _ H (aA.refl _) ?_⟩;refine Rp.at (fun z=>absurd z BC) h3 ha (h4.weak.mono fun c o e=> ?_);unfold aN at e
     split at e
     ·cases e
     ·rename_i nb
      unfold del;have ne:c≠l:=fun z=>nb (z▸h2);rw[BI ne];exact e
 ·split at h
  ·rename_i hg
   cases hx:ct.G.lookup x with
   | none=>rw[hx]at h;simp[bL,bN,bK,cB,bj,bu,bo,b9,bt,cC,bZ,bn,bg,bh,bc,cD,cE,ba,bW,bi,cA]at h
   | some v =>
    rw[hx]at h;have h:some (sc v)=some r:=by simpa [bL,bN,bK,cB,bj,bu,bo,b9,bt,cC,bZ,bn,bg,bh,bc,cD,cE,ba,bW,bi,cA]using h
    cases h;obtain⟨u,w,h1,h2,h3⟩:=C.glob x v hx;have g:Gl X x:=by
     show X.env.scope.names.lookup x=_;rw[C.S]
     simpa using hg
    exact we (cz g h1 h2 o1) (q _ _ (aA.refl _) (dI fun _=>h3 _ _ _))
  ·simp[bL,bN,bK,cB,bj,bu,bo,b9,bt,cC,bZ,bn,bg,bh,bc,cD,cE,ba,bW,bi,cA]at h
theorem eU{a b:Expr}{op:Operator}{pos:Pos}{x y r:RV}{rr:R2}(ho:cO X (binaryOp op) rr)(ha:aG X Hi τ a x)(hb:aG X Hi τ b y)
  (k:∀(O:List Addr)(σ:L2.St)(H H2:Hp)(u v:V)(Q:VK),aX X.K Hi O τ σ H->aA H H2->aR X.K Hi O H H2 x u->aR X.K Hi O H H2 y v->(∀w H3,aA H2 H3->aR X.K Hi O H H3 r w->Q w H3)->rr u v H2 Q) :
  aG X Hi τ (.BinOp a op b pos) r:=by
 intro O σ H Q R q;refine we (qd ho aS aS) ?_;refine ha O σ H _ R fun u H1 s1 r1=>hb O σ H1 _ (R.ext s1) fun v H2 s2 r2=> ?_;exact k O σ H H2 u v Q R (s1.trans s2) (r1.ext s2) (r2.back s1) fun w H3 s3 r3=>q w H3 (s1.trans (s2.trans s3)) r3
theorem aR.int{O:List Addr}{σ:L2.St}{H H' :Hp}{x:RV}{u:V}{i:Int}(R:aX X.K Hi O τ σ H)(s:aA H H')(h:aR X.K Hi O H H' x u)(e:x.val=.int i):u=.int i:=by
 have z:=h.val R s;rw[e]at z;exact Rp.int.mp z
theorem aR.str{O:List Addr}{σ:L2.St}{H H' :Hp}{x:RV}{u:V}{i:Str}(R:aX X.K Hi O τ σ H)(s:aA H H')(h:aR X.K Hi O H H' x u)(e:x.val=.str i):u=.str i:=by
 have z:=h.val R s;rw[e]at z;exact Rp.str.mp z
theorem aR.bl{O:List Addr}{σ:L2.St}{H H' :Hp}{x:RV}{u:V}{i:Bool}(R:aX X.K Hi O τ σ H)(s:aA H H')(h:aR X.K Hi O H H' x u)(e:x.val=.bl i):u=.bl i:=by
 have z:=h.val R s;rw[e]at z;exact Rp.bl.mp z
theorem aR.tup{O:List Addr}{σ:L2.St}{H H' :Hp}{x:RV}{u:V}{ys:List PV}(R:aX X.K Hi O τ σ H)(s:aA H H')(h:aR X.K Hi O H H' x u)(e:x.val=.tup ys):∃p us,u=.ref p/\bI X.K H' p us/\aF X.K Hi false ys H' us:=by
 have z:=h.val R s;rw[e]at z;exact Rp.tup.mp z
theorem aR.lst{O:List Addr}{σ:L2.St}{H H' :Hp}{x:RV}{u:V}{ys:List PV}(R:aX X.K Hi O τ σ H)(s:aA H H')(h:aR X.K Hi O H H' x u)(e:x.val=.lst ys):∃p us,u=.ref p/\aj X.K H' p us/\aF X.K Hi false ys H' us:=by
 have z:=h.val R s;rw[e]at z;obtain⟨p,us,h1,_,h2,h3⟩:=Rp.lst.mp z;exact⟨p,us,h1,h2,h3.mono bB⟩
theorem aR.itsL{O:List Addr}{σ:L2.St}{H H' :Hp}{r:RV}{u:V}{xs ys:List PV}{n:Bool}(R:aX X.K Hi O τ σ H)(s:aA H H')(h:aR X.K Hi O H H' r u)(e:r.its=some (xs,n))(ev:r.val=.lst ys) :
  ∃p us,u=.ref p/\aj X.K H' p us/\aF X.K Hi n xs (aN H' O) us:=by
 obtain⟨p,us,h1,h2,h3⟩:=h.its R s e
 rcases h2 with⟨h2,_⟩|⟨_,zs,h2⟩
 ·exact⟨p,us,h1,h2,h3⟩
 ·rw[ev]at h2
  cases h2
theorem aR.itsT{O:List Addr}{σ:L2.St}{H H' :Hp}{r:RV}{u:V}{xs ys:List PV}{n:Bool}(R:aX X.K Hi O τ σ H)(s:aA H H')(h:aR X.K Hi O H H' r u)(e:r.its=some (xs,n))(ev:r.val=.tup ys) :
  ∃p us,u=.ref p/\bI X.K H' p us/\aF X.K Hi n xs (aN H' O) us:=by
 obtain⟨p,us,h1,h2,h3⟩:=h.its R s e
 rcases h2 with⟨_,zs,h2⟩|⟨h2,_⟩
 ·rw[ev]at h2
  cases h2
 ·exact⟨p,us,h1,h2,h3⟩
theorem dA{O:List Addr}{H H2:Hp}{xs:List PV}{n:Bool}{p:Addr}{us:List V}(s:aA H H2)(hp:H2 p=none)(r:aF X.K Hi n xs (aN H2 O) us):aR X.K Hi O H (L2.upd H2 p (.lst us)) (.own xs n) (.ref p):=by
 refine⟨p,us,rfl,s.free hp,aD,r.mono (aM fun b o e=> ?_)⟩;have ne:=aJ e hp;unfold del;rw[BI ne,aE ne];exact e
theorem jD{O:List Addr}{σ:L2.St}{H H2:Hp}{p:Addr}{o:HO}(R:aX X.K Hi O τ σ H)(s:aA H H2)(hp:H2 p=none):aN (L2.upd H2 p o) O p=some o:=by
 unfold aN;rw[BI fun z=> ?_]
 ·exact aD
 ·obtain⟨us,e,_⟩:=(R.own p z).2
  rw[s _ _ e]at hp;cases hp
theorem nQ{O:List Addr}{σ:L2.St}{H H2:Hp}{p:Addr}{us:List V}(R:aX X.K Hi O τ σ H)(s:aA H H2)(h:bI X.K H2 p us):bI X.K (aN H2 O) p us:=(R.ext s).tups.at h
theorem xj{n m:Bool}{xs ys:List PV}{H:Hp}{us vs:List V}(a:aF X.K Hi n xs H us)(b:aF X.K Hi m ys H vs):aF X.K Hi (n&&m) (xs++ys) H (us++vs):=by
 refine aF.app (a.low fun z=> ?_) (b.low fun z=> ?_)
 ·rw[BB]at z;exact z.1
 ·rw[BB]at z;exact z.2
theorem pI{O:List Addr}{H H' :Hp}{i:Int}:aR X.K Hi O H H' (sc (.int i)) (.int i):=dI fun _=>Rp.int.mpr rfl
theorem v7{O:List Addr}{H H' :Hp}{i:Bool}:aR X.K Hi O H H' (sc (.bl i)) (.bl i):=dI fun _=>Rp.bl.mpr rfl
theorem yx{O:List Addr}{H H' :Hp}{i:Str}:aR X.K Hi O H H' (sc (.str i)) (.str i):=dI fun _=>Rp.str.mpr rfl
theorem nF{xs:List PV}{n:Bool}{r:RV}(h:kE xs n=some r):xs.length<=LN/\r=.own xs n:=by
 unfold kE at h
 split at h
 ·rename_i e;cases h;exact⟨e,rfl⟩
 ·cases h
theorem nE{xs:List PV}{n:Bool}{r:RV}(h:kB xs n=some r):xs.length<=LN/\r=.frz (.tup xs) n:=by
 unfold kB at h
 split at h
 ·rename_i e;cases h;exact⟨e,rfl⟩
 ·cases h
theorem binI{a b:Expr}{op:Operator}{pos:Pos}{x y:RV}{i j:Int}{C:Int->Int->Prop}{g:Int->Int->V}{w:PV}(ho:cO X (binaryOp op) (rI C g))(ha:aG X Hi τ a x)(hb:aG X Hi τ b y)(ex:x.val=.int i)(ey:y.val=.int j)(c:C i j)
  (hg:∀G,Rp X.K Hi true w G (g i j)):aG X Hi τ (.BinOp a op b pos) (sc w) :=
 eU ho ha hb fun O σ H H2 u v Q R s ru rv q=>⟨i,j,ru.int R s ex,rv.int R s ey,c,q _ _ (aA.refl _) (dI hg)⟩
theorem wN{a b:Expr}{op:Operator}{pos:Pos}{x y:RV}{i j:Int}{g:Int->Int->V}{w:PV}(ho:cO X (binaryOp op) (uJ g))(ha:aG X Hi τ a x)(hb:aG X Hi τ b y)(ex:x.val=.int i)(ey:y.val=.int j)
  (hg:∀G,Rp X.K Hi true w G (g i j)):aG X Hi τ (.BinOp a op b pos) (sc w) :=
 eU ho ha hb fun O σ H H2 u v Q R s ru rv q=>⟨i,j,ru.int R s ex,rv.int R s ey,q _ _ (aA.refl _) (dI hg)⟩
theorem kc(a:Array Nat):∀(m:Nat)(acc:Array Nat),((List.replicate m a).foldl (·++·) acc).toList=acc.toList++(List.replicate m a.toList).flatten
 | 0,acc=>by simp
 | m+1,acc=>by
  rw[C4,List.foldl_cons,kc a m,C4,List.flatten_cons];simp
theorem xh{z:Str}{n:Nat}:Txt.mul z (n:Int)=(⟨(List.replicate n z.cps.toList).flatten.toArray⟩:Str):=by
 refine UM.cx ?_;unfold Txt.mul
 split
 ·rename_i c
  have:n=0:=by omega
  subst this;rfl
 ·split
  ·rename_i c1 c
   rcases(CH ..).mp c with c|c
   ·have:n=1:=by
     have:=B7.mp c;omega
    subst this;simp
   ·have e:z.cps.toList=[]:=List.length_eq_zero_iff.mp (by have:=B7.mp c;simpa [Str.length]using this)
    show z.cps.toList=(List.replicate n z.cps.toList).flatten;rw[e];simp
  ·rw[Int.toNat_natCast]
   have:=kc z.cps n #[]
   simpa using this
theorem so{a b:Expr}{op:Operator}{pos:Pos}{x y r:RV}(ha:aG X Hi τ a x)(hb:aG X Hi τ b y)(h:cr op x y=some r):aG X Hi τ (.BinOp a op b pos) r:=by
 cases op with
 | Add =>
  have h:mJ x y=some r:=h;unfold mJ at h
  split at h
  case h_1 i j e1 e2=>cases h;exact wN xV ha hb e1 e2 fun _=>Rp.int.mpr rfl
  case h_2 i j e1 e2 =>
   split at h
   ·rename_i hz
    cases h;exact eU lT ha hb fun O σ H H2 u v Q R s ru rv q=>⟨i,j,ru.str R s e1,rv.str R s e2,by rw[cT];exact hz,q _ _ (aA.refl _) yx⟩
   ·cases h
  case h_3 e1 e2 =>
   split at h
   ·rename_i xs n ys m ix iy
    obtain⟨hz,rfl⟩:=nF h;refine eU nA ha hb fun O σ H H2 u v Q R s ru rv q=> ?_;obtain⟨p,us,rfl,l1,r1⟩:=ru.itsL R s ix e1;obtain⟨p2,us2,rfl,l2,r2⟩:=rv.itsL R s iy e2;have z1:=r1.len;have z2:=r2.len;rw[BL]at hz;exact⟨p,p2,us,us2,rfl,rfl,l1,l2,by rw[cT,<-z1,<-z2];exact hz,fun p3 hp=>q _ _ (aP hp _) (dA s hp (xj r1 r2))⟩
   ·cases h
  case h_4 e1 e2 =>
   split at h
   ·rename_i xs n ys m ix iy
    obtain⟨hz,rfl⟩:=nE h;refine eU ue ha hb fun O σ H H2 u v Q R s ru rv q=> ?_;obtain⟨p,us,rfl,l1,r1⟩:=ru.itsT R s ix e1;obtain⟨p2,us2,rfl,l2,r2⟩:=rv.itsT R s iy e2;have z1:=r1.len;have z2:=r2.len;rw[BL]at hz;exact⟨p,p2,us,us2,rfl,rfl,l1,l2,by rw[cT,<-z1,<-z2];exact hz,fun p3 H3 s3 l3=>q _ _ s3 (Rp.tup.mpr ⟨p3,_,rfl,nQ R (s.trans s3) l3,(xj r1 r2).mono (aM s3)⟩)⟩
   ·cases h
  case h_5=>cases h
 | Sub =>
  have h:mH x y=some r:=h;unfold mH at h
  split at h
  case h_1 i j e1 e2=>cases h;exact wN xP ha hb e1 e2 fun _=>Rp.int.mpr rfl
  case h_2=>cases h
 | Mult =>
  have h:jP x y=some r:=h;unfold jP at h
  split at h
  case h_1 i j e1 e2 =>
   split at h
   ·rename_i c
    cases h;exact binI xR ha hb e1 e2 c fun _=>Rp.int.mpr rfl
   ·split at h
    ·rename_i c
     cases h;exact binI ud ha hb e1 e2 c fun _=>Rp.int.mpr rfl
    ·cases h
  case h_2 z k e1 e2 =>
   split at h
   ·rename_i c
    cases h;refine eU (rr:=fun x y H Q=>∃(z:Str)(n:Nat),x=.str z/\y=.int n/\z.length<=16/\n<=1000/\Q (.str (Txt.mul z (n:Int))) H) ?_ ha hb fun O σ H H2 u v Q R s ru rv q=> ?_
    ·intro pins s σ H x y u v Q I rx ry h
     obtain⟨z,n,rfl,rfl,hz,hn,q⟩:=h;obtain⟨t,rfl⟩:=rx;obtain⟨t',rfl⟩:=ry;exact SB.mul (mulOk_of 16 1048576 (by omega) (by omega) (by omega) (by decide) (by decide)) fun t2 k=>⟨.str _,H,I.tok _,⟨_,rfl⟩,q⟩
    ·refine⟨z,k.toNat,ru.str R s e1,by rw[rv.int R s e2];congr 1;omega,c.2.2,by omega,?_⟩
     rw[xh];exact q _ _ (aA.refl _) yx
   ·cases h
  case h_3=>cases h
 | FloorDiv =>
  have h:cu x y=some r:=h;unfold cu at h
  split at h
  case h_1 i j e1 e2 =>
   split at h
   ·rename_i c
    cases h;exact binI qx ha hb e1 e2 ⟨c.1,CS ((Nat.log2_lt (n:=j.natAbs) (k:=200) (by omega)).mpr (by omega)) (by decide)⟩ fun _=>Rp.int.mpr rfl
   ·cases h
  case h_2=>cases h
 | Mod =>
  have h:mI x y=some r:=h;unfold mI at h
  split at h
  case h_1 i j e1 e2 =>
   split at h
   ·rename_i c
    cases h;exact binI xS ha hb e1 e2 c fun _=>Rp.int.mpr rfl
   ·cases h
  case h_2=>cases h
 | LShift =>
  have h:eV x y=some r:=h;unfold eV at h
  split at h
  case h_1 i j e1 e2 =>
   split at h
   ·rename_i c
    cases h;exact binI xQ ha hb e1 e2 c fun _=>Rp.int.mpr rfl
   ·cases h
  case h_2=>cases h
 | _=>exact absurd (show(none:Option RV)=some r from h) (by intro z;cases z)
mutual
theorem ai{pins:List (Addr×Obj)}{σ:L2.St}{H:Hp}{s:Shared}(I:Inv X pins σ H s):∀{a:PV}{n:Nat}{u:V}{u' :Value},fg n a=true->Rp X.K Hi false a H u->RelV u u' ->∃as,Reads s.heap u' (gy a) as
 | .non,_,_,_,_,r,e=>by cases Rp.non.mp r;cases e;exact⟨_,.none⟩
 | .bl b,_,_,_,_,r,e=>by cases Rp.bl.mp r;cases e;exact⟨_,.bool b⟩
 | .int i,_,_,_,_,r,e=>by cases Rp.int.mp r;obtain⟨t,rfl⟩:=e;exact⟨_,.int i t⟩
 | .str z,_,_,_,_,r,e=>by cases Rp.str.mp r;obtain⟨t,rfl⟩:=e;exact⟨_,.str z t⟩
 | .lst xs,n,_,_,f,r,e=>by
  obtain⟨p,us,rfl,_,l,r⟩:=Rp.lst.mp r;cases e;cases n with
  | zero=>cases f
  | succ n =>
   obtain⟨its,rv,pl,_⟩:=I.list l;obtain⟨as,z⟩:=dY I (xs:=xs) (n:=n) f (r.mono bB) rv;obtain⟨o,ho,hc,m,hd⟩:=pl.isList;exact⟨_,.list ho hc hd (by simpa using z)⟩
 | .tup xs,n,_,_,f,r,e=>by
  obtain⟨p,us,rfl,l,r⟩:=Rp.tup.mp r;cases e;cases n with
  | zero=>cases f
  | succ n =>
   obtain⟨its,rv,pl,_⟩:=I.tuple l;obtain⟨as,z⟩:=dY I (xs:=xs) (n:=n) f r rv;obtain⟨o,ho,hc,m,hd⟩:=pl;exact⟨_,.tuple ho hc hd (by simpa using z)⟩
 | .dK _ _,n,_,_,f,_,_=>by cases n<;>cases f
 | .dT _ _,n,_,_,f,_,_=>by cases n<;>cases f
theorem dY{pins:List (Addr×Obj)}{σ:L2.St}{H:Hp}{s:Shared}(I:Inv X pins σ H s):∀{xs:List PV}{n:Nat}{us:List V}{us' :List Value},xs.all (fg n)=true->aF X.K Hi false xs H us->aI us us' ->∃as,ReadsAll s.heap us' (bz xs) as
 | [],_,_,_,_,r,e=>by
  unfold aF at r;subst r;cases e;exact⟨_,.nil⟩
 | x::xs,n,_,_,f,r,e=>by
  unfold aF at r;obtain⟨u,us,rfl,r1,r2⟩:=r;cases e with
  | cons e1 e2 =>
   rw[Cc,BB]at f;obtain⟨as,z⟩:=ai I f.1 r1 e1;obtain⟨bs,y⟩:=dY I f.2 r2 e2;exact⟨_,.cons z y⟩
end
mutual
theorem br:∀{a:PV}{n:Nat},fg n a=true->(gy a).canLay0=true/\(gy a).depth<=n
 | .non,n,_=>⟨rfl,Be _⟩
 | .bl _,n,_=>⟨rfl,Be _⟩
 | .int _,n,_=>⟨rfl,Be _⟩
 | .str z,n,h=>⟨by cases n<;>exact h,Be _⟩
 | .lst xs,0,h=>by cases h
 | .lst xs,n+1,h=>⟨(cK (xs:=xs) (n:=n) h).1,Nat.succ_le_succ (cK (xs:=xs) (n:=n) h).2⟩
 | .tup xs,0,h=>by cases h
 | .tup xs,n+1,h=>⟨(cK (xs:=xs) (n:=n) h).1,Nat.succ_le_succ (cK (xs:=xs) (n:=n) h).2⟩
 | .dK _ _,n,h=>by cases n<;>cases h
 | .dT _ _,n,h=>by cases n<;>cases h
theorem cK:∀{xs:List PV}{n:Nat},xs.all (fg n)=true->PyData.canLayAll0 (bz xs)=true/\PyData.depthAll (bz xs)<=n
 | [],n,_=>⟨rfl,Be _⟩
 | x::xs,n,h=>by
  rw[Cc,BB]at h;obtain⟨a,b⟩:=br h.1;obtain⟨c,d⟩:=cK h.2;refine⟨?_,?_⟩
  ·show((gy x).canLay0&&PyData.canLayAll0 (bz xs))=true
   rw[a,c];rfl
  ·show max (gy x).depth (PyData.depthAll (bz xs))<=n
   omega
end
mutual
theorem d6:∀(a b:PV),PyData.eqv (gy a) (gy b)=jV a b
 | .lst xs,b=>by
  cases b with
  | lst ys=>show PyData.eqvAll (bz xs) (bz ys)=lw xs ys;exact gZ xs ys
  | _=>rfl
 | .tup xs,b=>by
  cases b with
  | tup ys=>show PyData.eqvAll (bz xs) (bz ys)=lw xs ys;exact gZ xs ys
  | _=>rfl
 | .non,b=>by cases b<;>rfl
 | .bl x,b=>by cases b<;>first|rfl|exact beq_eq_decide _ _|(unfold jV;simp[gy,PyData.eqv,sE,Cp])
 | .int x,b=>by cases b<;>first|rfl|exact beq_eq_decide _ _|(unfold jV;simp[gy,PyData.eqv,sE,Cp])
 | .str x,b=>by cases b<;>first|rfl|exact beq_eq_decide _ _|(unfold jV;simp[gy,PyData.eqv,sE,Cp])
 | .dK k v,b=>by cases b<;>rfl
 | .dT k v,b=>by cases b<;>rfl
theorem gZ:∀(xs ys:List PV),PyData.eqvAll (bz xs) (bz ys)=lw xs ys
 | [],[]=>rfl
 | [],_::_=>rfl
 | _::_,[]=>rfl
 | x::xs,y::ys=>by
  show(PyData.eqv (gy x) (gy y)&&PyData.eqvAll (bz xs) (bz ys))=(jV x y&&lw xs ys);rw[d6 x y,gZ xs ys]
end
theorem gc(x:PV):∀ys:List PV,((bz ys).any fun y=>PyData.eqv y (gy x))=ys.any fun y=>jV y x
 | []=>rfl
 | y::ys=>by
  show(PyData.eqv (gy y) (gy x)||(bz ys).any fun y=>PyData.eqv y (gy x))=(jV y x||ys.any fun y=>jV y x);rw[d6,gc x ys]
variable(X Hi)in
noncomputable def zr(g:Bool->Bool):R2:=fun x y H Q=>∃a b,fg 12 a=true/\fg 12 b=true/\Rp X.K Hi false a H x/\Rp X.K Hi false b H y/\Q (.bl (g (jV a b))) H
theorem qy(hu:X.A.units+64<cLine):cO X (compareOp .Eq) (zr X Hi id):=by
 intro pins s σ H x y u v Q I rx ry h;obtain⟨a,b,fa,fb,ra,rb,q⟩:=h;obtain⟨as,za⟩:=ai I fa ra rx;obtain⟨bs,zb⟩:=ai I fb rb ry;obtain⟨ca,da⟩:=br fa;obtain⟨cb,db⟩:=br fb;refine SeqAt.compareEq_reads za zb ca cb (by omega) ?_;rw[d6];exact⟨.bl _,H,I,rfl,q⟩
theorem qu(hu:X.A.units+64<cLine):cO X (compareOp .NotEq) (zr X Hi not):=by
 intro pins s σ H x y u v Q I rx ry h;obtain⟨a,b,fa,fb,ra,rb,q⟩:=h;obtain⟨as,za⟩:=ai I fa ra rx;obtain⟨bs,zb⟩:=ai I fb rb ry;obtain⟨ca,da⟩:=br fa;obtain⟨cb,db⟩:=br fb;refine SeqAt.compareNe_reads za zb ca cb (by omega) ?_;rw[d6];exact⟨.bl _,H,I,rfl,q⟩
variable(X Hi)in
noncomputable def rIn2(g:Bool->Bool):R2:=fun x y H Q=>∃a ys,fg 12 a=true/\ys.all (fg 12)=true/\Rp X.K Hi false a H x/\(Rp X.K Hi false (.lst ys) H y\/Rp X.K Hi false (.tup ys) H y)/\Q (.bl (g (ys.any fun y=>jV y a))) H
theorem xT(hu:X.A.units+64<cLine):cO X (compareOp .In) (rIn2 X Hi id):=by
 intro pins s σ H x y u v Q I rx ry h;obtain⟨a,ys,fa,fb,ra,rb,q⟩:=h;obtain⟨as,za⟩:=ai I fa ra rx;obtain⟨ca,da⟩:=br fa;obtain⟨cb,db⟩:=cK fb
 rcases rb with rb|rb
 ·obtain⟨bs,zb⟩:=ai I (a:=.lst ys) (n:=13) fb rb ry
  refine SeqAt.in_list_reads zb za cb ca (by omega) ?_;rw[gc];exact⟨.bl _,H,I,rfl,q⟩
 ·obtain⟨bs,zb⟩:=ai I (a:=.tup ys) (n:=13) fb rb ry
  refine SeqAt.in_tuple_reads zb za cb ca (by omega) ?_;rw[gc];exact⟨.bl _,H,I,rfl,q⟩
noncomputable def k7(op:CmpOp)(A:Around)(s:Shared)(a b:Value)(t:Bool):Prop:=∀(prog:Program)(w:World)(E:Value->Shared->Prop)(Q:Value->Shared->Prop),Q (.bool t) s->wpAny (model prog w) A (richCompare op a b) Q E s
inductive OW(op:CmpOp)(A:Around)(s:Shared):List (Value×Value)->Option Bool->Prop
 | nil:OW op A s [] none
 | eq {p q:Value} {r:List (Value×Value)} {t:Option Bool}:SeqAt.EqAt A s p q true->OW op A s r t->OW op A s ((p,q)::r) t
 | ne {p q:Value} {r:List (Value×Value)} {t:Bool}:SeqAt.EqAt A s p q false->k7 op A s p q t->OW op A s ((p,q)::r) (some t)
structure TOp(op:CmpOp)(f:Int->Int->Bool)(g:Nat->Nat->Bool):Prop where
 int:∀{A:Around}{s:Shared}{i j:Int}{t t' :Tok},k7 op A s (.int i t) (.int j t') (f i j)
 tup:∀{A:Around}{s:Shared}{l b:Addr}{xs ys:Array Value}{t:Option Bool},s.heap.IsTuple l xs->s.heap.IsTuple b ys->A.units<cLine->OW op A.in1 s (xs.toList.zip ys.toList) t->k7 op A s (.ref l) (.ref b) (t.getD (g xs.size ys.size))
 co:∀a b:Value,compareOp op a b=richCompare op a b
 s1:∀n,g (n+1) 0=g 1 0
 s2:∀a b,g (a+1) (b+1)=g a b
theorem eI{h:Heap}:∀{xs:List PV}{vs:List Value}{as:List Addr},ReadsAll h vs (bz xs) as->vs.length=xs.length
 | [],_,_,r=>by cases r;rfl
 | x::xs,_,_,r=>by
  cases r with
  | cons a b=>rw[BS,BS,eI b]
mutual
theorem sZ{op:CmpOp}{f:Int->Int->Bool}{g:Nat->Nat->Bool}(T:TOp op f g):∀{x y:PV}{n:Nat}{A:Around}{s:Shared}{a b:Value}{as bs:List Addr}{t:Bool},Reads s.heap a (gy x) as->Reads s.heap b (gy y) bs->fg n x=true->fg n y=true->A.units+n<cLine->Al f g x y=some t->k7 op A s a b t
 | .int i,y,_,_,_,_,_,_,_,_,ra,rb,_,_,_,h=>by
  cases y with
  | int j =>
   cases h;cases ra;cases rb;exact T.int
  | _=>cases h
 | .tup xs,y,n,A,s,_,_,_,_,t,ra,rb,fa,fb,hu,h=>by
  cases y with
  | tup ys =>
   cases n with
   | zero=>cases fa
   | succ n =>
    cases ra with
    | @tuple l o vs m _ _ h1 h2 h3 h4 =>
     cases rb with
     | @tuple l' o' ws m' _ _ k1 k2 k3 k4 =>
      obtain⟨o,ow,e⟩:=nh T (A:=A.in1) (n:=n) h4 k4 fa fb (by show A.units+1+n<cLine;omega) h;rw[Br,Br]at e;rw[e];exact T.tup ⟨_,h1,h2,_,h3⟩ ⟨_,k1,k2,_,k3⟩ (by omega) ow
  | _=>cases h
 | .non,_,_,_,_,_,_,_,_,_,_,_,_,_,_,h=>by cases h
 | .bl _,_,_,_,_,_,_,_,_,_,_,_,_,_,_,h=>by cases h
 | .str _,_,_,_,_,_,_,_,_,_,_,_,_,_,_,h=>by cases h
 | .lst _,_,_,_,_,_,_,_,_,_,_,_,_,_,_,h=>by cases h
 | .dK _ _,_,_,_,_,_,_,_,_,_,_,_,_,_,_,h=>by cases h
 | .dT _ _,_,_,_,_,_,_,_,_,_,_,_,_,_,_,h=>by cases h
theorem nh{op:CmpOp}{f:Int->Int->Bool}{g:Nat->Nat->Bool}(T:TOp op f g):∀{xs ys:List PV}{n:Nat}{A:Around}{s:Shared}{vs ws:List Value}{as bs:List Addr}{t:Bool},ReadsAll s.heap vs (bz xs) as->ReadsAll s.heap ws (bz ys) bs->xs.all (fg n)=true->ys.all (fg n)=true->A.units+n<cLine->vU f g xs ys=some t ->
  ∃o:Option Bool,OW op A s (vs.zip ws) o/\t=o.getD (g vs.length ws.length)
 | [],ys,_,_,_,_,_,_,_,_,ra,rb,_,_,_,h=>by
  cases h;cases ra;exact⟨none,.nil,by rw[eI rb];rfl⟩
 | x::xs,[],_,_,_,_,_,_,_,_,ra,rb,_,_,_,h=>by
  cases h;cases rb;exact⟨none,by rw[List.zip_nil_right];exact .nil,by rw[eI ra];exact(T.s1 _).symm⟩
 | x::xs,y::ys,n,A,s,_,_,_,_,t,ra,rb,fa,fb,hu,h=>by
  rw[Cc,BB]at fa fb;cases ra with
  | cons r rs =>
   cases rb with
   | cons r' rs' =>
    obtain⟨c1,d1⟩:=br fa.1;obtain⟨c2,d2⟩:=br fb.1;have he:=SeqAt.eqAt_reads (gy x) (gy y) A s _ _ _ _ r r' c1 c2 (by omega);rw[d6]at he;have h:(if jV x y=true then vU f g xs ys else Al f g x y)=some t:=h;cases e:jV x y with
    | true =>
     rw[e]at h he;obtain⟨o,ow,z⟩:=nh T rs rs' fa.2 fb.2 hu h;refine⟨o,.eq he ow,?_⟩;rw[z,BS,BS,T.s2]
    | false =>
     rw[e]at h he;exact⟨some t,.ne he (sZ T r r' fa.1 fb.1 hu h),rfl⟩
end
variable(X Hi)in
noncomputable def zt(f:Int->Int->Bool)(g:Nat->Nat->Bool):R2:=fun x y H Q=>∃a b t,fg 12 a=true/\fg 12 b=true/\Rp X.K Hi false a H x/\Rp X.K Hi false b H y/\Al f g a b=some t/\Q (.bl t) H
theorem xU{op:CmpOp}{f:Int->Int->Bool}{g:Nat->Nat->Bool}(T:TOp op f g)(hu:X.A.units+64<cLine):cO X (compareOp op) (zt X Hi f g):=by
 intro pins s σ H x y u v Q I rx ry h;obtain⟨a,b,t,fa,fb,ra,rb,e,q⟩:=h;obtain⟨as,za⟩:=ai I fa ra rx;obtain⟨bs,zb⟩:=ai I fb rb ry;have z:=sZ T (A:=X.A) za zb fa fb (by omega) e;rw[T.co];exact z _ _ _ _ ⟨.bl _,H,I,rfl,q⟩
theorem wY(l b:Addr)(xs ys:Array Value)(n n2:Nat)(d1 d2:Option Addr)(sl sl2:Array (Option Value)):Meets (Builtin.«tuple.__lt__» ⟨[.ref l,.ref b],[]⟩)
  (fun A R s=>s.heap.get? l=some ⟨.type "tuple",d1,.seq xs n,sl⟩/\s.heap.get? b=some ⟨.type "tuple",d2,.seq ys n2,sl2⟩ /\
   ∃t:Option Bool,OW .Lt A.in1 s (xs.toList.zip ys.toList) t/\R (.ok (.ret (.bool (t.getD (decide (xs.size<ys.size)))))) s) :=
 .of_wp fun prog w A R s h=>by
  obtain⟨hp,g,d,tk,os⟩:=s;obtain⟨h1,h2,t,ow,hR⟩:=h;have f2:=AutoSeq1.sub_tuple_tuple
  wp_walk using AutoSeq1.wpAny_loadPart' h1,AutoSeq1.wpAny_loadPart' h2,wpAny_forIn_list _ (fun aO c s' =>c.1=none/\s' =⟨hp,g,d,tk,os⟩/\∃t:Option Bool,OW .Lt A.in1 ⟨hp,g,d,tk,os⟩ aO t/\R (.ok (.ret (.bool (t.getD (decide (xs.size<ys.size)))))) ⟨hp,g,d,tk,os⟩) _
  case turn =>
   rintro⟨y,x⟩ aO c s' ⟨hc,rfl,t,ow,hR⟩;cases ow with
   | eq he ow =>
    refine A8 (he prog w _ _ ?_)
    wp_walk
    exact⟨rfl,rfl,t,ow,hR⟩
   | ne he hl =>
    refine A8 (he prog w _ _ ?_);refine A8 (wpAny_rule (A8 (hl prog w _ _ ?_)));refine A8 (BG (BG ?_));exact BG ⟨_,rfl,hR⟩
  case fin =>
   rintro⟨c1,c2⟩ s' ⟨hc,rfl,t,ow,hR⟩;cases ow;simp only at hc;subst hc
   wp_walk
   exact⟨_,rfl,by simpa [Builtin.Tuple.tupleCompareSizes]using hR⟩
  case h =>
   exact⟨rfl,rfl,t,ow,hR⟩
theorem oS{A:Around}{s:Shared}{l b:Addr}{xs ys:Array Value}{t:Option Bool}(hl:s.heap.IsTuple l xs)(hb:s.heap.IsTuple b ys)(hu:A.units<cLine)(ow:OW .Lt A.in1 s (xs.toList.zip ys.toList) t):k7 .Lt A s (.ref l) (.ref b) (t.getD (decide (xs.size<ys.size))):=fun prog w E Q h=>by
 obtain⟨⟨c1,d1,x1,s1⟩,h1,e1,n,y1⟩:=id hl;obtain⟨⟨c2,d2,x2,s2⟩,h2,e2,m,y2⟩:=id hb;simp only at e1 y1 e2 y2;subst e1 y1 e2 y2;exact richCompare_meets_room (op:=.Lt) ⟨_,h1,rfl⟩ ⟨_,h2,rfl⟩ PySem.F.slot_tuple_lt PySem.F.entry_tuple_lt (PySem.F.args_tuple_lt_2 _ _) (wY l b xs ys n m d1 d2 s1 s2) ⟨h1,h2,t,ow,(fun z=>nomatch z),h⟩ hu
theorem AO:TOp .Lt (fun i j=>decide (i<j)) fun a b=>decide (a<b):=⟨fun _ _ _ _ q=>PyProof.Rows.lt_int q,oS,fun _ _=>rfl,fun n=>rfl,fun a b=>CY.mpr (by omega)⟩
theorem qv(hu:X.A.units+64<cLine):cO X (compareOp .Lt) (zt X Hi (fun i j=>decide (i<j)) fun a b=>decide (a<b)):=xU AO hu
theorem Rp.dT{n:Bool}{ks:List (List aq)}{vs:List PV}{G:Hp}{u:V}(h:Rp X.K Hi n (.dT ks vs) G u):∃p us,u=.ref p/\G p=some (.dT (ks.zip us))/\ks.length=us.length/\aF X.K Hi n vs (IR.del G p) us:=by
 unfold Rp at h;obtain⟨p,us,e,_,h1,h2,h3⟩:=h;exact⟨p,us,e,h1,h2,h3⟩
theorem Rp.dK{n:Bool}{ks:List aq}{vs:List PV}{G:Hp}{u:V}(h:Rp X.K Hi n (.dK ks vs) G u):∃p us,u=.ref p/\G p=some (.dK (ks.zip us))/\ks.length=us.length/\aF X.K Hi n vs (IR.del G p) us:=by
 unfold Rp at h;obtain⟨p,us,e,_,h1,h2,h3⟩:=h;exact⟨p,us,e,h1,h2,h3⟩
end
section
variable{X:Cx}{Hi:Hp}
end
section
variable{X:Cx}{Hi:Hp}{τ:En}
theorem sA{a b:PV}{t:Bool}{H H' :Hp}{u v:V}(h:eqs a b=some t)(ha:Rp X.K Hi false a H u)(hb:Rp X.K Hi false b H' v):wx u v=true/\decide (u=v)=t:=by
  cases a<;>cases b<;>first
    | exact absurd (show(none:Option Bool)=some t from h) (by intro z;cases z)
    | (have e:=Bc (show some _=some t from h)
       subst e
       first
       | rw[Rp.int.mp ha]|rw[Rp.str.mp ha]|rw[Rp.bl.mp ha]|rw[Rp.non.mp ha]
       first
       | rw[Rp.int.mp hb]|rw[Rp.str.mp hb]|rw[Rp.bl.mp hb]|rw[Rp.non.mp hb]
       exact⟨rfl,by simp⟩)
theorem nV{a:PV}{H:Hp}{u:V}(ha:Rp X.K Hi false a H u)(f:ki a=true):dL u=true:=by
 cases a with
 | non=>rw[Rp.non.mp ha];rfl
 | bl b=>rw[Rp.bl.mp ha];rfl
 | int b=>rw[Rp.int.mp ha];rfl
 | str b=>rw[Rp.str.mp ha];rfl
 | _=>cases f
theorem yO{a b:PV}{H H' :Hp}{u v:V}(ha:Rp X.K Hi false a H u)(hb:Rp X.K Hi false b H' v)(fa:ki a=true)(fb:ki b=true):pK u v=sE a b:=by
 cases a<;>(try cases fa)<;>cases b<;>(try cases fb) <;>
  (first|rw[Rp.int.mp ha]|rw[Rp.str.mp ha]|rw[Rp.bl.mp ha]|rw[Rp.non.mp ha]) <;>
  (first|rw[Rp.int.mp hb]|rw[Rp.str.mp hb]|rw[Rp.bl.mp hb]|rw[Rp.non.mp hb]) <;>
  first|rfl|exact beq_eq_decide _ _|exact(beq_eq_decide _ _).symm|(simp[pK,sE,Cp];done)|(unfold pK sE;simp only[beq_eq_decide])
theorem kh:∀{xs:List PV}{H:Hp}{us:List V},aF X.K Hi false xs H us->xs.all ki=true->us.all dL=true
 | [],_,_,h,_=>by unfold aF at h;subst h;rfl
 | x::xs,_,_,h,f=>by
  unfold aF at h;obtain⟨u,r,rfl,a,b⟩:=h;rw[Cc,BB]at f ⊢;exact⟨nV a f.1,kh b f.2⟩
theorem sw{x:PV}{H' :Hp}{v:V}(hb:Rp X.K Hi false x H' v)(fb:ki x=true):∀{xs:List PV}{H:Hp}{us:List V},aF X.K Hi false xs H us->xs.all ki=true->inV v us=xs.any fun y=>sE y x
 | [],_,_,h,_=>by unfold aF at h;subst h;rfl
 | y::xs,_,_,h,f=>by
  unfold aF at h;obtain⟨u,r,rfl,a,b⟩:=h;rw[Cc,BB]at f;show(pK u v||inV v r)=_;rw[Cq,sw hb fb b f.2,yO a hb f.1 fb]
theorem xa{a:PV}{H:Hp}{u:V}(ha:Rp X.K Hi false a H u)(h:∀z,a≠z\/z≠PV.non):u≠.non:=by
 intro e;subst e;cases a with
 | non=>rcases h .non with z|z<;>exact z rfl
 | bl b=>cases Rp.bl.mp ha
 | int b=>cases Rp.int.mp ha
 | str b=>cases Rp.str.mp ha
 | lst xs=>obtain⟨p,us,z,_⟩:=Rp.lst.mp ha;cases z
 | tup xs=>obtain⟨p,us,z,_⟩:=Rp.tup.mp ha;cases z
 | dK ks vs=>unfold Rp at ha;obtain⟨p,us,z,_⟩:=ha;cases z
 | dT ks vs=>unfold Rp at ha;obtain⟨p,us,z,_⟩:=ha;cases z
theorem cq(hun:X.A.units+64<cLine){op:CmpOp}{x y:RV}{t:Bool}(h:ar op x.val y.val=some t):∃rr:R2,cO X (compareOp op) rr /\
  ∀(O:List Addr)(σ:L2.St)(H H2:Hp)(u v:V)(Q:VK),aX X.K Hi O τ σ H->aA H H2->aR X.K Hi O H H2 x u->aR X.K Hi O H H2 y v->Q (.bl t) H2->rr u v H2 Q:=by
 cases op with
 | Lt =>
  have h:sU x.val y.val=some t:=h;unfold sU at h
  split at h
  case h_1 i j e1 e2=>cases h;exact⟨_,AF,fun O σ H H2 u v Q R s ru rv q=>⟨i,j,ru.int R s e1,rv.int R s e2,q⟩⟩
  case h_2 xs ys e1 e2 =>
   unfold ltT at h
   split at h
   ·rename_i c
    rw[BB]at c;exact⟨_,qv (Hi:=Hi) hun,fun O σ H H2 u v Q R s ru rv q=>⟨_,_,t,c.1,c.2,by have z:=ru.val R s;rw[e1]at z;exact z,by have z:=rv.val R s;rw[e2]at z;exact z,h,q⟩⟩
   ·cases h
  case h_3=>cases h
 | LtE =>
  have h:mB x.val y.val=some t:=h;unfold mB at h
  split at h
  case h_1 i j e1 e2=>cases h;exact⟨_,AG,fun O σ H H2 u v Q R s ru rv q=>⟨i,j,ru.int R s e1,rv.int R s e2,q⟩⟩
  case h_2=>cases h
 | Gt =>
  have h:sY x.val y.val=some t:=h;unfold sY at h
  split at h
  case h_1 i j e1 e2=>cases h;exact⟨_,AH,fun O σ H H2 u v Q R s ru rv q=>⟨i,j,ru.int R s e1,rv.int R s e2,q⟩⟩
  case h_2=>cases h
 | GtE =>
  have h:mC x.val y.val=some t:=h;unfold mC at h
  split at h
  case h_1 i j e1 e2=>cases h;exact⟨_,AI,fun O σ H H2 u v Q R s ru rv q=>⟨i,j,ru.int R s e1,rv.int R s e2,q⟩⟩
  case h_2=>cases h
 | Eq =>
  have h:wH x.val y.val=some t:=h;unfold wH at h
  split at h
  ·rename_i z
   cases h;refine⟨_,AJ,fun O σ H H2 u v Q R s ru rv q=> ?_⟩;obtain⟨z1,z2⟩:=sA z (ru.val R s) (rv.val R s);exact⟨z1,by rw[z2];exact q⟩
  ·split at h
   ·rename_i c
    rw[BB]at c;cases h;exact⟨_,qy (Hi:=Hi) hun,fun O σ H H2 u v Q R s ru rv q=>⟨_,_,c.1,c.2,ru.val R s,rv.val R s,q⟩⟩
   ·cases h
 | NotEq =>
  have h:(wH x.val y.val).map (!·)=some t:=h;obtain⟨k,e,rfl⟩:∃k,wH x.val y.val=some k/\t= !k:=by
   cases e:wH x.val y.val with
   | none=>rw[e]at h;cases h
   | some k=>rw[e]at h;cases h;exact⟨k,rfl,rfl⟩
  unfold wH at e
  split at e
  ·rename_i z
   cases e;refine⟨_,AE,fun O σ H H2 u v Q R s ru rv q=> ?_⟩;obtain⟨z1,z2⟩:=sA z (ru.val R s) (rv.val R s);exact⟨z1,by rw[z2];exact q⟩
  ·split at e
   ·rename_i c
    rw[BB]at c;cases e;exact⟨_,qu (Hi:=Hi) hun,fun O σ H H2 u v Q R s ru rv q=>⟨_,_,c.1,c.2,ru.val R s,rv.val R s,q⟩⟩
   ·cases e
 | Is =>
  have h:sW x.val y.val=some t:=h;unfold sW at h
  split at h
  case h_1 e1 e2 =>
   cases h;refine⟨_,qw,fun O σ H H2 u v Q R s ru rv q=> ?_⟩;have z1:=ru.val R s;have z2:=rv.val R s;rw[e1]at z1;rw[e2]at z2;exact⟨Rp.non.mp z2,by rw[Rp.non.mp z1];exact q⟩
  case h_2 e2 ne =>
   cases h;refine⟨_,qw,fun O σ H H2 u v Q R s ru rv q=> ?_⟩;have z2:=rv.val R s;rw[e2]at z2;have n:u≠.non:=xa (ru.val R s) fun z=>by
    by_cases c:z=.non
    ·left;intro c2;exact ne (c2.trans c)
    ·right;exact c
   exact⟨Rp.non.mp z2,by rw[Bh n];exact q⟩
  case h_3=>cases h
 | In =>
  have h:sX x.val y.val=some t:=h;unfold sX at h
  split at h
  case h_1 ys e2 =>
   have e:inq x.val ys=some t:=h;unfold inq at e
   split at e
   ·rename_i c
    cases e;refine⟨_,oK,fun O σ H H2 u v Q R s ru rv q=> ?_⟩;obtain⟨p,us,rfl,l,r⟩:=rv.tup R s e2;exact⟨p,us,rfl,.inr l,nV (ru.val R s) c.1,kh r c.2,by rw[sw (ru.val R s) c.1 r c.2];exact q⟩
   ·split at e
    ·rename_i c
     rw[BB]at c;cases e;exact⟨_,xT (Hi:=Hi) hun,fun O σ H H2 u v Q R s ru rv q=>⟨_,ys,c.1,c.2,ru.val R s,.inr (by have z:=rv.val R s;rw[e2]at z;exact z),q⟩⟩
    ·cases e
  case h_2=>cases h
 | _=>exact absurd (show(none:Option Bool)=some t from h) (by intro z;cases z)
theorem rD{op:CmpOp}{b:Expr}(h:bP b=false):behindInMarks op b=false:=by
 cases b<;>first|rfl|cases h
theorem yW(hun:X.A.units+64<cLine){a b:Expr}{op:CmpOp}{pos:Pos}{x y:RV}{t:Bool}(ha:aG X Hi τ a x)(hb:aG X Hi τ b y)(hs:bP b=false)(h:ar op x.val y.val=some t):aG X Hi τ (.Compare a [op] [b] pos) (sc (.bl t)):=by
 obtain⟨rr,ho,k⟩:=cq (X:=X) (Hi:=Hi) (τ:=τ) hun h;intro O σ H Q R q;refine we (mr ho aS aS (rD hs)) ?_;refine ha O σ H _ R fun u H1 s1 r1=>hb O σ H1 _ (R.ext s1) fun v H2 s2 r2=> ?_;exact k O σ H H2 u v Q R (s1.trans s2) (r1.ext s2) (r2.back s1) (q _ _ (s1.trans s2) v7)
theorem yV(hun:X.A.units+64<cLine){a b:Expr}{op:CmpOp}{pos:Pos}{x y:RV}{t:Bool}(ha:aG X Hi τ a x)(hb:aG X Hi τ b y)(hs:bP b=false)(h:ar op x.val y.val=some t):cW X Hi τ (.Compare a [op] [b] pos) t:=by
 obtain⟨rr,ho,k⟩:=cq (X:=X) (Hi:=Hi) (τ:=τ) hun h;intro O σ H Q R q;refine wt (mi ho aS aS (rD hs)) ?_;refine ha O σ H _ R fun u H1 s1 r1=>hb O σ H1 _ (R.ext s1) fun v H2 s2 r2=> ?_;exact k O σ H H2 u v _ R (s1.trans s2) (r1.ext s2) (r2.back s1) ⟨t,rfl,q _ (s1.trans s2)⟩
theorem il{op op' :CmpOp}{b c:Expr}(h:bP c=false):lastMarks [op,op'] [b,c]=false:=by
 show behindInMarks op' c=false;exact rD h
theorem sf(hun:X.A.units+64<cLine){a b c:Expr}{o1 o2:CmpOp}{pos:Pos}{x y:RV}{t t2:Bool}(ha:aG X Hi τ a x)(hb:aG X Hi τ b y)(hs:bP c=false)(h:ar o1 x.val y.val=some t)
  (hc:if t=true then∃z,aG X Hi τ c z/\ar o2 y.val z.val=some t2 else t2=false/\∃w z,ar o2 w z=some false):aG X Hi τ (.Compare a [o1,o2] [b,c] pos) (sc (.bl t2))/\cW X Hi τ (.Compare a [o1,o2] [b,c] pos) t2:=by
 obtain⟨rr,ho,k⟩:=cq (X:=X) (Hi:=Hi) (τ:=τ) hun h;cases t with
 | true =>
  rw[BK rfl]at hc;obtain⟨z,hz,h2⟩:=hc;obtain⟨rr2,ho2,k2⟩:=cq (X:=X) (Hi:=Hi) (τ:=τ) hun h2
  constructor
  ·intro O σ H Q R q
   refine we (j8 ho ho2 aS aS aS (il hs)) ?_;refine ha O σ H _ R fun u H1 s1 r1=>hb O σ H1 _ (R.ext s1) fun v H2 s2 r2=> ?_;refine k O σ H H2 u v _ R (s1.trans s2) (r1.ext s2) (r2.back s1) ⟨true,rfl,?_⟩;rw[BK rfl];refine hz O σ H2 _ (R.ext (s1.trans s2)) fun w H3 s3 r3=> ?_;exact k2 O σ H H3 v w Q R (s1.trans (s2.trans s3)) ((r2.back s1).ext s3) (r3.back (s1.trans s2)) (q _ _ (s1.trans (s2.trans s3)) v7)
  ·intro O σ H Q R q
   refine wt (j4 ho ho2 aS aS aS (il hs)) ?_;refine ha O σ H _ R fun u H1 s1 r1=>hb O σ H1 _ (R.ext s1) fun v H2 s2 r2=> ?_;refine k O σ H H2 u v _ R (s1.trans s2) (r1.ext s2) (r2.back s1) ⟨true,rfl,?_⟩;rw[BK rfl];refine hz O σ H2 _ (R.ext (s1.trans s2)) fun w H3 s3 r3=> ?_;exact k2 O σ H H3 v w _ R (s1.trans (s2.trans s3)) ((r2.back s1).ext s3) (r3.back (s1.trans s2)) ⟨t2,rfl,q _ (s1.trans (s2.trans s3))⟩
 | false =>
  rw[BI BC]at hc;obtain⟨rfl,w,z,h2⟩:=hc;obtain⟨rr2,ho2,k2⟩:=cq (X:=X) (Hi:=Hi) (τ:=τ) hun (x:=sc w) (y:=sc z) h2
  constructor
  ·intro O σ H Q R q
   refine we (j8 ho ho2 aS aS aS (il hs)) ?_;refine ha O σ H _ R fun u H1 s1 r1=>hb O σ H1 _ (R.ext s1) fun v H2 s2 r2=> ?_;exact k O σ H H2 u v _ R (s1.trans s2) (r1.ext s2) (r2.back s1) ⟨false,rfl,by rw[BI BC];exact q _ _ (s1.trans s2) v7⟩
  ·intro O σ H Q R q
   refine wt (j4 ho ho2 aS aS aS (il hs)) ?_;refine ha O σ H _ R fun u H1 s1 r1=>hb O σ H1 _ (R.ext s1) fun v H2 s2 r2=> ?_;exact k O σ H H2 u v _ R (s1.trans s2) (r1.ext s2) (r2.back s1) ⟨false,rfl,by rw[BI BC];exact⟨false,rfl,q _ (s1.trans s2)⟩⟩
theorem lJ(o:CmpOp)(h:mz o=true):∃w z:PV,ar o w z=some false:=by
 cases o
 ·exact⟨.int 0,.int 1,rfl⟩
 ·exact⟨.int 0,.int 0,rfl⟩
 ·exact⟨.int 0,.int 0,rfl⟩
 ·exact⟨.int 1,.int 0,rfl⟩
 ·exact⟨.int 0,.int 0,rfl⟩
 ·exact⟨.int 0,.int 1,rfl⟩
 all_goals cases h
theorem xf{a:Expr}{pos:Pos}{x:RV}{i:Int}(ha:aG X Hi τ a x)(e:x.val=.int i):aG X Hi τ (.UnaryOp .USub a pos) (sc (.int (-i))):=by
 intro O σ H Q R q;refine we (AA wV aS) ?_;exact ha O σ H _ R fun u H1 s1 r1=>⟨i,r1.int R s1 e,q _ _ s1 pI⟩
theorem xZ{a:Expr}{pos:Pos}{x:RV}{b:Bool}(ha:aG X Hi τ a x)(e:x.val=.bl b):aG X Hi τ (.UnaryOp .Not a pos) (sc (.bl !b)):=by
 intro O σ H Q R q;refine we (xM aS) ?_;exact ha O σ H _ R fun u H1 s1 r1=>⟨b,r1.bl R s1 e,q _ _ s1 v7⟩
theorem xX{op:BoolOp}{a:Expr}{pos:Pos}{x:RV}(ha:aG X Hi τ a x):aG X Hi τ (.BoolOp op [a] pos) x:=by
 intro O σ H Q R q;exact we (qe aS) (ha O σ H _ R q)
theorem Ap{a b:Expr}{aO:List Expr}{pos:Pos}{x y:RV}(ha:aG X Hi τ a x)(e:x.val=.bl true)(hb:aG X Hi τ (.BoolOp .And (b::aO) pos) y):aG X Hi τ (.BoolOp .And (a::b::aO) pos) y:=by
 intro O σ H Q R q;refine we (lR aS aS) ?_;exact ha O σ H _ R fun u H1 s1 r1=>⟨true,r1.bl R s1 e,kN (hb O σ H1 _ (R.ext s1) fun w H2 s2 r2=>q w H2 (s1.trans s2) (r2.back s1))⟩
theorem Aq{a b:Expr}{aO:List Expr}{pos:Pos}{x:RV}(ha:aG X Hi τ a x)(e:x.val=.bl false):aG X Hi τ (.BoolOp .And (a::b::aO) pos) (sc (.bl false)):=by
 intro O σ H Q R q;refine we (lR aS aS) ?_;exact ha O σ H _ R fun u H1 s1 r1=>⟨false,r1.bl R s1 e,kO (q _ _ s1 v7)⟩
theorem or_f{a b:Expr}{aO:List Expr}{pos:Pos}{x y:RV}(ha:aG X Hi τ a x)(e:x.val=.bl false)(hb:aG X Hi τ (.BoolOp .Or (b::aO) pos) y):aG X Hi τ (.BoolOp .Or (a::b::aO) pos) y:=by
 intro O σ H Q R q;refine we (wC aS aS) ?_;exact ha O σ H _ R fun u H1 s1 r1=>⟨false,r1.bl R s1 e,kO (hb O σ H1 _ (R.ext s1) fun w H2 s2 r2=>q w H2 (s1.trans s2) (r2.back s1))⟩
theorem or_t{a b:Expr}{aO:List Expr}{pos:Pos}{x:RV}(ha:aG X Hi τ a x)(e:x.val=.bl true):aG X Hi τ (.BoolOp .Or (a::b::aO) pos) (sc (.bl true)):=by
 intro O σ H Q R q;refine we (wC aS aS) ?_;exact ha O σ H _ R fun u H1 s1 r1=>⟨true,r1.bl R s1 e,kN (q _ _ s1 v7)⟩
theorem xx{c a b:Expr}{pos:Pos}{t:Bool}{r:RV}(hc:cW X Hi τ c t)(h:aG X Hi τ (if t=true then a else b) r):aG X Hi τ (.IfExp c a b pos) r:=by
 intro O σ H Q R q;refine we (qj gq aS aS) ?_;refine hc O σ H _ R fun H1 s1=> ?_;cases t with
 | true=>exact kN ((show aG X Hi τ a r from h) O σ H1 _ (R.ext s1) fun w H2 s2 r2=>q w H2 (s1.trans s2) (r2.back s1))
 | false=>exact kO ((show aG X Hi τ b r from h) O σ H1 _ (R.ext s1) fun w H2 s2 r2=>q w H2 (s1.trans s2) (r2.back s1))
theorem pX{v:PV}{b:Bool}{H:Hp}{u:V}(h:jo v=some b)(r:Rp X.K Hi false v H u):yk X.K u H b:=by
 cases v with
 | non=>cases h;rw[Rp.non.mp r];rfl
 | bl c=>cases h;rw[Rp.bl.mp r];rfl
 | int i=>cases h;rw[Rp.int.mp r];rfl
 | str z =>
  have h:(if z.length<=LN then some ((z.length:Int) !=0)else none)=some b:=h
  split at h
  ·rename_i c
   cases h;rw[Rp.str.mp r];exact⟨by rw[cT];exact c,rfl⟩
  ·cases h
 | lst xs =>
  cases h;obtain⟨p,us,rfl,_,l,r⟩:=Rp.lst.mp r;have:=r.len;exact .inl ⟨us,l,by cases xs<;>cases us<;>simp_all⟩
 | tup xs =>
  cases h;obtain⟨p,us,rfl,l,r⟩:=Rp.tup.mp r;have:=r.len;exact .inr (.inl ⟨us,l,by cases xs<;>cases us<;>simp_all⟩)
 | dK ks vs =>
  cases h;unfold Rp at r;obtain⟨p,us,rfl,_,l,z,r⟩:=r;exact .inr (.inr ⟨_,l,by cases ks<;>cases us<;>simp_all⟩)
 | dT ks vs=>cases h
theorem wU{e:Expr}{x:RV}{b:Bool}(he:aG X Hi τ e x)(h:jo x.val=some b)(hp:∀whole,isTrue e X.env whole=(do let v<-whole;standAt e.pos;holding [v] (truthy v))):cW X Hi τ e b:=by
 intro O σ H Q R q;refine wt (qJ aS hp) ?_;exact he O σ H _ R fun u H1 s1 r1=>⟨b,pX h (r1.val R s1),q _ s1⟩
theorem xY{a:Expr}{pos:Pos}{b:Bool}(ha:cW X Hi τ a b):cW X Hi τ (.UnaryOp .Not a pos) !b:=by
 intro O σ H Q R q;exact wt (xH gq) (ha O σ H _ R fun H1 s1=>q _ s1)
noncomputable def hU(X:Cx)(Hi:Hp)(τ:En)(e:Expr)(b:Bool):Prop:=∀(O:List Addr)(σ:L2.St)(H:Hp)(Q:Bool->Hp->Prop),aX X.K Hi O τ σ H->(∀H',aA H H' ->Q b H') ->
 ∀(whole:Sem Value)(pins:List (Addr×Obj))(s:Shared),Inv X pins σ H s->wpAny (model X.prog X.w) X.A (isTrue e X.env whole) (TP X pins σ Q) X.xe s
theorem zv{e:Expr}:PW X e (fun σ H Q=>∀(whole:Sem Value)(pins:List (Addr×Obj))(s:Shared),Inv X pins σ H s->wpAny (model X.prog X.w) X.A (isTrue e X.env whole) (TP X pins σ Q) X.xe s):=fun wh pins s σ H Q I h=>h wh pins s I
theorem hU.tc{e:Expr}{b:Bool}(h:hU X Hi τ e b):cW X Hi τ e b:=fun O σ H Q R q pins s I=>h O σ H Q R q _ pins s I
theorem xW{op:BoolOp}{a:Expr}{pos:Pos}{b:Bool}(ha:cW X Hi τ a b):hU X Hi τ (.BoolOp op [a] pos) b:=by
 intro O σ H Q R q wh pins s I;cases op with
 | And=>exact uL gq wh pins s σ H Q I (ha O σ H Q R q)
 | Or=>exact xD gq wh pins s σ H Q I (ha O σ H Q R q)
theorem sx{a b:Expr}{aO:List Expr}{pos:Pos}{t u:Bool}(ha:cW X Hi τ a t)(hb:if t=true then hU X Hi τ (.BoolOp .And (b::aO) pos) u else u=false):hU X Hi τ (.BoolOp .And (a::b::aO) pos) u:=by
 intro O σ H Q R q wh pins s I;refine xE gq zv wh pins s σ H Q I ?_;refine ha O σ H _ R fun H1 s1=> ?_;cases t with
 | true=>exact kN ((show hU X Hi τ _ u from hb) O σ H1 _ (R.ext s1) fun H2 s2=>q _ (s1.trans s2))
 | false =>
  have hb:u=false:=hb;subst hb;exact kO (q _ s1)
theorem wD{a b:Expr}{aO:List Expr}{pos:Pos}{t u:Bool}(ha:cW X Hi τ a t)(hb:if t=true then u=true else hU X Hi τ (.BoolOp .Or (b::aO) pos) u):hU X Hi τ (.BoolOp .Or (a::b::aO) pos) u:=by
 intro O σ H Q R q wh pins s I;refine zw gq zv wh pins s σ H Q I ?_;refine ha O σ H _ R fun H1 s1=> ?_;cases t with
 | false=>exact kO ((show hU X Hi τ _ u from hb) O σ H1 _ (R.ext s1) fun H2 s2=>q _ (s1.trans s2))
 | true =>
  have hb:u=true:=hb;subst hb;exact kN (q _ s1)
end
end IR
namespace L2
open PySem PySem.Spec PyProof.Rows
section
variable{X:Cx}
inductive Av(K:W.Frag)(H:Hp):V->Value->Prop where
 | of {x:V} {t:Value} (h:eY K H x t):Av K H x t
 | lst {a:Addr} {xs:List V} (e:aj K H a xs):Av K H (.ref a) (.type "list")
 | tup {a:Addr} {xs:List V} (e:bI K H a xs):Av K H (.ref a) (.type "tuple")
theorem mG:ay X (.builtin "isinstance") (fun xs H Q=>∃x c t b,xs=[x,.ty c]/\Av X.K H x t/\W.kitOne X.K t (.type c)=some b/\Q (.bl b) H):=by
 intro pins s σ H xs us Q I r h;obtain⟨x,c,t,b,rfl,ty,e,q⟩:=h;obtain⟨u,w',rfl,rx,ry⟩:=vals2 r;cases ry;cases ty with
 | of ty=>exact oZ I rx ty e fun tk=>⟨.bl b,H,I.tok _,rfl,q⟩
 | lst l =>
  cases rx;obtain⟨its,r',pl,hz⟩:=I.list l;obtain⟨o,n,h1,h2,_⟩:=pl;exact CL W.kitx_list I.kIn ⟨o,h1,h2⟩ e (fun z=>nomatch z) fun tk=>⟨.bl b,H,I.tok _,rfl,q⟩
 | tup l =>
  cases rx;obtain⟨its,r',pl,hz⟩:=I.tuple l;obtain⟨o,h1,h2,_⟩:=pl;exact CL W.kitx_tuple I.kIn ⟨o,h1,h2⟩ e (fun z=>nomatch z) fun tk=>⟨.bl b,H,I.tok _,rfl,q⟩
end
section
variable{K:W.Frag}
theorem kits:(W.kitOne K (.type "NoneType") (.type "int")=some false/\W.kitOne K (.type "NoneType") (.type "str")=some false/\W.kitOne K (.type "NoneType") (.type "list")=some false/\W.kitOne K (.type "NoneType") (.type "tuple")=some false/\W.kitOne K (.type "NoneType") (.type "bool")=some false) /\
  (W.kitOne K (.type "bool") (.type "int")=some true/\W.kitOne K (.type "bool") (.type "str")=some false/\W.kitOne K (.type "bool") (.type "list")=some false/\W.kitOne K (.type "bool") (.type "tuple")=some false) /\
  (W.kitOne K (.type "int") (.type "bool")=some false/\W.kitOne K (.type "int") (.type "str")=some false/\W.kitOne K (.type "int") (.type "list")=some false/\W.kitOne K (.type "int") (.type "tuple")=some false) /\
  (W.kitOne K (.type "str") (.type "bool")=some false/\W.kitOne K (.type "str") (.type "int")=some false/\W.kitOne K (.type "str") (.type "list")=some false/\W.kitOne K (.type "str") (.type "tuple")=some false) /\
  (W.kitOne K (.type "list") (.type "bool")=some false/\W.kitOne K (.type "list") (.type "int")=some false/\W.kitOne K (.type "list") (.type "str")=some false/\W.kitOne K (.type "list") (.type "tuple")=some false) /\
  (W.kitOne K (.type "tuple") (.type "bool")=some false/\W.kitOne K (.type "tuple") (.type "int")=some false/\W.kitOne K (.type "tuple") (.type "str")=some false/\W.kitOne K (.type "tuple") (.type "list")=some false) /\
  (W.kitOne K (.type "dict") (.type "bool")=some false/\W.kitOne K (.type "dict") (.type "int")=some false/\W.kitOne K (.type "dict") (.type "str")=some false/\W.kitOne K (.type "dict") (.type "list")=some false/\W.kitOne K (.type "dict") (.type "tuple")=some false):=by
 refine⟨⟨?_,?_,?_,?_,?_⟩,⟨?_,?_,?_,?_⟩,⟨?_,?_,?_,?_⟩,⟨?_,?_,?_,?_⟩,⟨?_,?_,?_,?_⟩,⟨?_,?_,?_,?_⟩,⟨?_,?_,?_,?_,?_⟩⟩<;>kernel_rfl
end
end L2
namespace IR
open PySem PySem.Spec PyProof.Rows L2
section
variable{X:Cx}{Hi:Hp}{τ:En}
theorem aW{e:Expr}{es:List Expr}{env:Env}(h:isStar e=false):starEach (e::es) env=(false,eval e env)::starEach es env:=by
 cases e<;>first|rfl|cases h
theorem dt{env:Env}{pos:Pos}:∀{es:List Expr},(∀e∈es,isStar e=false)->(backTo pos (starEach es env)).any (·.1)=false
 | [],_=>rfl
 | e::es,h=>by
  rw[aW (h e BN)];show(false||(backTo pos (starEach es env)).any (·.1))=false;rw[dt fun x hx=>h x (BF _ hx)];rfl
theorem yg:jU X Hi τ [] []:=by
 intro O σ H Q R q;exact wa aT (q _ _ (aA.refl _) rfl)
theorem vi{e:Expr}{es:List Expr}{r:RV}{rs:List RV}(he:aG X Hi τ e r)(hs:isStar e=false)(hr:jU X Hi τ es rs):jU X Hi τ (e::es) (r::rs):=by
 intro O σ H Q R q;refine wa (aC aS lS (aW hs)) ?_;refine he O σ H _ R fun u H1 s1 r1=>hr O σ H1 _ (R.ext s1) fun us H2 s2 r2=> ?_;exact q _ _ (s1.trans s2) ⟨u,us,rfl,r1.ext s2,r2.back s1⟩
theorem xi{es:List Expr}{pos:Pos}{rs:List RV}{vs:List PV}{n:Bool}{r:RV}(h:jU X Hi τ es rs)(hk:keeps rs=some (vs,n))(hn:kE vs n=some r):aG X Hi τ (.List es pos) r:=by
 obtain⟨hz,rfl⟩:=nF hn;intro O σ H Q R q;refine we (dU lS) ?_;refine h O σ H _ R fun us H1 s1 r1=> ?_;have k:=r1.keeps R s1 hk;have hl:=k.len;exact⟨by rw[cT,<-hl];exact hz,fun p hp=>q _ _ (s1.trans (aP hp _)) (dA s1 hp k)⟩
theorem wX{es:List Expr}{m:Nat}{pos:Pos}{rs:List RV}{vs:List PV}{n:Bool}{r:RV}(h:jU X Hi τ es rs)(hk:keeps rs=some (vs,n))(hn:kB vs n=some r):aG X Hi τ (.Tuple es m pos) r:=by
 obtain⟨hz,rfl⟩:=nE hn;intro O σ H Q R q;refine we (lP lS) ?_;refine h O σ H _ R fun us H1 s1 r1=> ?_;have k:=r1.keeps R s1 hk;have hl:=k.len;exact⟨by rw[cT,<-hl];exact hz,fun p hp=>q _ _ (s1.trans (aP hp _)) (Rp.tup.mpr ⟨p,us,rfl,bI.of (jD R s1 hp),k.mono (aM (aP hp _))⟩)⟩
theorem vN{pos:Pos}:aG X Hi τ (.Dict [] [] pos) (.owd (.dK []) [] true):=by
 intro O σ H Q R q;refine we qk ?_;intro p hp;exact q _ _ (aP hp _) ⟨p,[],_,rfl,hp,aD,⟨rfl,rfl⟩,.nil⟩
theorem nY{k:aq}{ke v:Expr}{r:RV}{w:PV}{n:Bool}{pos:Pos}{tk:TE}(hk:PE X ke tk)(hk2:∀σ H Q,Q (kV k) H->tk σ H Q)(h:aG X Hi τ v r)(hw:r.keep=some (w,n))(hi:imm w=true):aG X Hi τ (.Dict [some ke] [v] pos) (.owd (.dK [k]) [w] true):=by
 intro O σ H Q R q;refine we (ua (qQ hk aS uS) rfl rfl (by intro z;cases z) (by show 1<=15;decide)) ?_;intro p hp;have s0:=aP hp (.dK []);refine hk2 σ _ _ ?_;refine h O σ _ _ (R.ext s0) fun u H2 s2 r2=> ?_;have kp:=r2.keep (R.ext s0) s2 hw;refine⟨s2 _ _ aD,[(k,u)],rfl,by show 1<=15;decide,?_⟩;have e:dW [] [(k,u)]=[(k,u)]:=by simp[dW,dR]
 rw[e];have ss:aA H (L2.upd H2 p (.dK [(k,u)])):=fun b o z=>by rw[aE (aJ z hp)];exact s2 _ _ (s0 _ _ z)
 refine q _ _ ss ⟨p,[u],_,rfl,hp,aD,⟨rfl,rfl⟩,.cons (Rp.imm hi ⟨fun b xs z=> ?_,fun b o xs z=> ?_⟩ kp) .nil⟩
 ·have hne:b≠p:=fun c=>by
   subst c;have:=aV _ _ z;rw[s2 _ _ aD]at this;cases this
  unfold aN at z ⊢
  split at z
  ·cases z
  ·rename_i nb
   rw[BI nb];unfold del;rw[BI hne,aE hne];exact z
 ·have hne:b≠p:=fun c=>by
   subst c;have:=aV _ _ z;rw[s2 _ _ aD]at this;cases this
  unfold aN at z ⊢
  split at z
  ·cases z
  ·rename_i nb
   rw[BI nb];unfold del;rw[BI hne,aE hne];exact z
noncomputable def eF(O:List Addr)(G:Hp):Prop:=∀l∈O,(∀xs,G l≠some (.tup xs))/\∀o xs,G l≠some (.frz o (.tup xs))
theorem Mo.noTup{o:HO}{G:Hp}{l:Addr}(m:Mo o)(e:G l=some o):(∀xs,G l≠some (.tup xs))/\∀o xs,G l≠some (.frz o (.tup xs)):=by
 obtain⟨b,us,m⟩:=m;refine⟨fun xs z=> ?_,fun o xs z=> ?_⟩<;>(rw[e]at z;cases z;cases b<;>first|cases m.1|cases m)
theorem eF.del{O:List Addr}{G:Hp}{p:Addr}(h:eF O G):eF O (IR.del G p):=fun l hl=>by
 refine⟨fun xs e=> ?_,fun o xs e=> ?_⟩
 ·unfold IR.del at e
  split at e
  ·cases e
  ·exact(h l hl).1 xs e
 ·unfold IR.del at e
  split at e
  ·cases e
  ·exact(h l hl).2 o xs e
theorem eF.tups{O:List Addr}{G:Hp}(h:eF O G):mM G (aN G O):=by
 refine⟨fun b xs e=> ?_,fun b o xs e=> ?_⟩
 ·unfold aN
  rw[BI fun z=>(h b z).1 xs e];exact e
 ·unfold aN
  rw[BI fun z=>(h b z).2 o xs e];exact e
mutual
theorem Rp.avoid{K:W.Frag}{Hj:Hp}{O:List Addr}(hO:∀l∈O,Hj l≠none):∀{v:PV}{G:Hp}{u:V},eF O G->Rp K Hj true v G u->Rp K Hj true v (aN G O) u
 | .non,_,_,_,h=>by unfold Rp at h ⊢;exact h
 | .bl _,_,_,_,h=>by unfold Rp at h ⊢;exact h
 | .int _,_,_,_,h=>by unfold Rp at h ⊢;exact h
 | .str _,_,_,_,h=>by unfold Rp at h ⊢;exact h
 | .lst xs,G,_,t,h=>by
  unfold Rp at h ⊢;obtain⟨p,us,e,q,l,r⟩:=h;obtain⟨q1,q2⟩:=q rfl;have q3:aN G O p=some (.lst us):=by
   unfold aN;rw[BI fun z=>hO p z q1];exact q2
  exact⟨p,us,e,fun _=>⟨q1,q3⟩,aj.of q3,by rw[<- dw];exact aF.avoid hO t.del r⟩
 | .tup xs,_,_,t,h=>by
  unfold Rp at h ⊢;obtain⟨p,us,e,l,r⟩:=h;exact⟨p,us,e,t.tups.at l,aF.avoid hO t r⟩
 | .dK ks vs,G,_,t,h=>by
  unfold Rp at h ⊢;obtain⟨p,us,e,q,l,z,r⟩:=h;refine⟨p,us,e,q,?_,z,by rw[<- dw];exact aF.avoid hO t.del r⟩;unfold aN;rw[BI fun z=>hO p z (q rfl)];exact l
 | .dT ks vs,G,_,t,h=>by
  unfold Rp at h ⊢;obtain⟨p,us,e,q,l,z,r⟩:=h;refine⟨p,us,e,q,?_,z,by rw[<- dw];exact aF.avoid hO t.del r⟩;unfold aN;rw[BI fun z=>hO p z (q rfl)];exact l
theorem aF.avoid{K:W.Frag}{Hj:Hp}{O:List Addr}(hO:∀l∈O,Hj l≠none):∀{xs:List PV}{G:Hp}{us:List V},eF O G->aF K Hj true xs G us->aF K Hj true xs (aN G O) us
 | [],_,_,_,h=>by unfold aF at h ⊢;exact h
 | x::xs,_,_,t,h=>by
  unfold aF at h ⊢;obtain⟨u,r,e,a,b⟩:=h;exact⟨u,r,e,Rp.avoid hO t a,aF.avoid hO t b⟩
end
theorem ti{O:List Addr}{σ:L2.St}{H H1 H' :Hp}{v:PV}{u:V}(R:aX X.K Hi O τ σ H)(s1:aA H H1)(s:aA H1 H')(h:Rp X.K H1 true v H' u):aR X.K Hi O H H' (jp v) u:=by
 have e1:∀p,H1 p=none->Hi p=none:=fun p hp=>R.same.free (s1.free hp);have hO:∀l∈O,H1 l≠none:=fun l hl z=>by
  obtain⟨us,e,_⟩:=(R.own l hl).2;rw[s1 _ _ e]at z;cases z
 have hT:eF O H' :=fun l hl=>by
  obtain⟨us,e,mo⟩:=(R.own l hl).2;have e' :=s _ _ (s1 _ _ e);exact mo.noTup e'
 have gen:Rp X.K Hi true v (aN H' O) u:=(Rp.avoid hO hT h).entry fun _=>e1;cases v with
 | lst xs =>
  obtain⟨p,us,e,q,l,r⟩:=Rp.lst.mp h;obtain⟨q1,q2⟩:=q rfl;exact⟨p,us,e,s1.free q1,q2,(aF.avoid hO hT.del r).entry fun _=>e1⟩
 | _=>exact gen
theorem call_ok{cd:Nat->List PV->Option PV}{ct:Ct}(C:bG cd X ct){x:Str}{f:Nat}{e:Expr}{es:List Expr}{p pos:Pos}{rs:List RV}{v:PV}(hx:nD x=false)(hg:ct.S.lookup x=some .globalImplicit)(hf:ct.F.lookup x=some f)
  (hs:∀a∈e::es,isStar a=false) (ha:jU X Hi τ (e::es) rs) (hv:cd f (rs.map RV.val)=some v):aG X Hi τ (.Call (.Name x p) (e::es) [] pos) (jp v):=by
 intro O σ H Q R q;obtain⟨k,a,fd,ps,F,hr,hm,kp,bd⟩:=C.fns x f hf;have g:Gl X x:=by
  show X.env.scope.names.lookup x=_;rw[C.S];exact hg
 refine we (ik F hr g hm kp bd .nil qq lS (bX hx).1 (aW (hs e BN)) (dt fun b hb=>hs b (BF _ hb))) ?_;refine ha O σ H _ R fun us H1 s1 r1=> ?_;have vs:=r1.vals R s1;rw[Bz];exact⟨_,v,vs.entry (fun z=>by cases z),hv,fun u H' s' ru=>q _ _ (s1.trans s') (ti R s1 s' ru)⟩
theorem gS{cd:Nat->List PV->Option PV}{ct:Ct}(C:bG cd X ct){x:Str}(h:own ct x=true):Gl X x/\X.mg x=none:=by
 unfold own at h;rw[BB]at h;refine⟨?_,C.bl x h.1⟩;show X.env.scope.names.lookup x=_;rw[C.S]
 simpa using h.2
theorem fB{cd:Nat->List PV->Option PV}{ct:Ct}(C:bG cd X ct){x:Str}{id:String}{a:Expr}{p pos:Pos}{ra r:RV}{rr:List V->Hp->VK->Prop}(hc:ay X (.builtin id) rr)(ho:own ct x=true)(hb:bootBuiltins x=some (.builtin id))(hx:nD x=false)(hs:isStar a=false)(ha:aG X Hi τ a ra)
  (k:∀(O:List Addr)(σ:L2.St)(H H2:Hp)(u:V)(Q:VK),aX X.K Hi O τ σ H->aA H H2->aR X.K Hi O H H2 ra u->(∀w H3,aA H2 H3->aR X.K Hi O H H3 r w->Q w H3)->rr [u] H2 Q):aG X Hi τ (.Call (.Name x p) [a] [] pos) r:=by
 intro O σ H Q R q;obtain⟨g,hm⟩:=gS C ho;refine we (az hc g hm hb (aC aS aT (aW hs)) (bX hx).2.2 (bX hx).1 (aW hs) rfl) ?_;exact ha O σ H _ R fun u H1 s1 r1=>k O σ H H1 u Q R s1 r1 fun w H3 s3 r3=>q w H3 (s1.trans s3) r3
theorem mV{cd:Nat->List PV->Option PV}{ct:Ct}(C:bG cd X ct){x:Str}{id:String}{a:Expr}{p pos:Pos}{ra r:RV}{rr:List V->Hp->VK->Prop}(hc:ay X (.type id) rr)(ho:own ct x=true)(hb:bootBuiltins x=some (.type id))(hx:nD x=false)(hs:isStar a=false)(ha:aG X Hi τ a ra)
  (k:∀(O:List Addr)(σ:L2.St)(H H2:Hp)(u:V)(Q:VK),aX X.K Hi O τ σ H->aA H H2->aR X.K Hi O H H2 ra u->(∀w H3,aA H2 H3->aR X.K Hi O H H3 r w->Q w H3)->rr [u] H2 Q):aG X Hi τ (.Call (.Name x p) [a] [] pos) r:=by
 intro O σ H Q R q;obtain⟨g,hm⟩:=gS C ho;refine we (iE hc g hm hb (aC aS aT (aW hs)) (bX hx).2.2 (bX hx).1 (aW hs) rfl) ?_;exact ha O σ H _ R fun u H1 s1 r1=>k O σ H H1 u Q R s1 r1 fun w H3 s3 r3=>q w H3 (s1.trans s3) r3
theorem b2_go{cd:Nat->List PV->Option PV}{ct:Ct}(C:bG cd X ct){x:Str}{id:String}{a b:Expr}{p pos:Pos}{ra rb r:RV}{rr:List V->Hp->VK->Prop}(hc:ay X (.builtin id) rr)(ho:own ct x=true)(hb:bootBuiltins x=some (.builtin id))(hx:nD x=false)(hs:isStar a=false)(hs2:isStar b=false)(ha:aG X Hi τ a ra)(hb' :aG X Hi τ b rb)
  (k:∀(O:List Addr)(σ:L2.St)(H H2:Hp)(u v:V)(Q:VK),aX X.K Hi O τ σ H->aA H H2->aR X.K Hi O H H2 ra u->aR X.K Hi O H H2 rb v->(∀w H3,aA H2 H3->aR X.K Hi O H H3 r w->Q w H3)->rr [u,v] H2 Q):aG X Hi τ (.Call (.Name x p) [a,b] [] pos) r:=by
 intro O σ H Q R q;obtain⟨g,hm⟩:=gS C ho;refine we (az hc g hm hb (aC aS (aC aS aT (aW hs2)) (aW hs)) (bX hx).2.2 (bX hx).1 (aW hs) (dt fun c hc=>by simp at hc;subst hc;exact hs2)) ?_;exact ha O σ H _ R fun u H1 s1 r1=>hb' O σ H1 _ (R.ext s1) fun v H2 s2 r2=>k O σ H H2 u v Q R (s1.trans s2) (r1.ext s2) (r2.back s1) fun w H3 s3 r3=>q w H3 (s1.trans (s2.trans s3)) r3
theorem ku:∀{xs:List PV}{bs:List Bool}{H:Hp}{us:List V},eE xs=some bs->aF X.K Hi false xs H us->us=bs.map V.bl
 | [],bs,_,_,h,r=>by cases h;unfold aF at r;exact r
 | x::xs,bs,_,_,h,r=>by
  unfold aF at r;obtain⟨u,ws,rfl,a,b⟩:=r;cases x with
  | bl c =>
   have h:(eE xs).map (c::·)=some bs:=h;cases e:eE xs with
   | none=>rw[e]at h;cases h
   | some ds =>
    rw[e]at h;cases h;rw[Rp.bl.mp a,ku e b];rfl
  | _=>cases h
theorem eM:∀{xs:List PV}{bs:List Int}{H:Hp}{us:List V},ak xs=some bs->aF X.K Hi false xs H us->us=bs.map V.int
 | [],bs,_,_,h,r=>by cases h;unfold aF at r;exact r
 | x::xs,bs,_,_,h,r=>by
  unfold aF at r;obtain⟨u,ws,rfl,a,b⟩:=r;cases x with
  | int c =>
   have h:(ak xs).map (c::·)=some bs:=h;cases e:ak xs with
   | none=>rw[e]at h;cases h
   | some ds =>
    rw[e]at h;cases h;rw[Rp.int.mp a,eM e b];rfl
  | _=>cases h
theorem fv:∀{xs:List PV}{bs:List Str}{H:Hp}{us:List V},dG xs=some bs->aF X.K Hi false xs H us->us=bs.map V.str
 | [],bs,_,_,h,r=>by cases h;unfold aF at r;exact r
 | x::xs,bs,_,_,h,r=>by
  unfold aF at r;obtain⟨u,ws,rfl,a,b⟩:=r;cases x with
  | str c =>
   have h:(dG xs).map (c::·)=some bs:=h;cases e:dG xs with
   | none=>rw[e]at h;cases h
   | some ds =>
    rw[e]at h;cases h;rw[Rp.str.mp a,fv e b];rfl
  | _=>cases h
theorem xy{t:String}{v:PV}{b:Bool}{H:Hp}{u:V}(h:bO t v=some b)(r:Rp X.K Hi false v H u):∃c,Av X.K H u c/\W.kitOne X.K c (.type t)=some b:=by
 obtain⟨⟨n1,n2,n3,n4,n5⟩,⟨b1,b2,b3,b4⟩,⟨i1,i2,i3,i4⟩,⟨s1,s2,s3,s4⟩,⟨l1,l2,l3,l4⟩,⟨t1,t2,t3,t4⟩,⟨d1,d2,d3,d4,d5⟩⟩:= @kits X.K;cases v with
 | non =>
  rw[Rp.non.mp r];refine⟨_,.of .non,?_⟩;simp only[bO]at h
  split at h
  ·rename_i c
   cases h
   rcases c with rfl|rfl|rfl|rfl|rfl<;>assumption
  ·cases h
 | bl x =>
  rw[Rp.bl.mp r];refine⟨_,.of (.bl x),?_⟩;simp only[bO]at h
  split at h
  ·rename_i c
   cases h
   rcases c with rfl|rfl
   ·assumption
   ·exact cj _
  ·split at h
   ·rename_i c
    cases h
    rcases c with rfl|rfl|rfl<;>assumption
   ·cases h
 | int x =>
  rw[Rp.int.mp r];refine⟨_,.of (.int x),?_⟩;simp only[bO]at h
  split at h
  ·rename_i c
   cases h;subst c;exact cj _
  ·split at h
   ·rename_i c
    cases h
    rcases c with rfl|rfl|rfl|rfl<;>assumption
   ·cases h
 | str x =>
  rw[Rp.str.mp r];refine⟨_,.of (.str x),?_⟩;simp only[bO]at h
  split at h
  ·rename_i c
   cases h;subst c;exact cj _
  ·split at h
   ·rename_i c
    cases h
    rcases c with rfl|rfl|rfl|rfl<;>assumption
   ·cases h
 | lst x =>
  obtain⟨p,us,rfl,_,l,_⟩:=Rp.lst.mp r;refine⟨_,.lst l,?_⟩;simp only[bO]at h
  split at h
  ·rename_i c
   cases h;subst c;exact cj _
  ·split at h
   ·rename_i c
    cases h
    rcases c with rfl|rfl|rfl|rfl<;>assumption
   ·cases h
 | tup x =>
  obtain⟨p,us,rfl,l,_⟩:=Rp.tup.mp r;refine⟨_,.tup l,?_⟩;simp only[bO]at h
  split at h
  ·rename_i c
   cases h;subst c;exact cj _
  ·split at h
   ·rename_i c
    cases h
    rcases c with rfl|rfl|rfl|rfl<;>assumption
   ·cases h
 | dK ks vs =>
  unfold Rp at r;obtain⟨p,us,rfl,_,l,_⟩:=r;refine⟨_,.of (.dK l),?_⟩;simp only[bO]at h
  split at h
  ·rename_i c
   cases h
   rcases c with rfl|rfl|rfl|rfl|rfl<;>assumption
  ·cases h
 | dT ks vs=>cases h
theorem vX{t:Str}{ty:String}(h:pU t=some ty):bootBuiltins t=some (.type ty)/\nD t=false:=by
 unfold pU at h
 split at h
 ·rename_i c;cases h;rw[BW c];exact⟨PyProof.Rows.boot_int,by decide⟩
 split at h
 ·rename_i c;cases h;rw[BW c];exact⟨PyProof.Rows.boot_bool,by decide⟩
 split at h
 ·rename_i c;cases h;rw[BW c];exact⟨PyProof.Rows.boot_str,by decide⟩
 split at h
 ·rename_i c;cases h;rw[BW c];exact⟨PyProof.Rows.boot_list,by decide⟩
 split at h
 ·rename_i c;cases h;rw[BW c];exact⟨PyProof.Rows.boot_tuple,by decide⟩
 cases h
theorem isin_ok{cd:Nat->List PV->Option PV}{ct:Ct}(C:bG cd X ct){t:Str}{ty:String}{a:Expr}{p pt pos:Pos}{ra:RV}{b:Bool}(ho:own ct ("isinstance":Str)=true)(ht:pU t=some ty)(hot:own ct t=true)(hs:isStar a=false)(ha:aG X Hi τ a ra)(h:bO ty ra.val=some b) :
  aG X Hi τ (.Call (.Name "isinstance" p) [a,.Name t pt] [] pos) (sc (.bl b)):=by
 intro O σ H Q R q;obtain⟨g,hm⟩:=gS C ho;obtain⟨g2,hm2⟩:=gS C hot;obtain⟨hb,hod⟩:=vX ht;refine we (az mG g hm Cd (aC aS (aC (wB g2 hm2 hb (bX hod).2.2 (bX hod).1) aT) (aW hs)) (by decide) (by decide) (aW hs) rfl) ?_;refine ha O σ H _ R fun u H1 s1 r1=> ?_;obtain⟨c,ty',k⟩:=xy h (r1.val R s1);exact⟨u,ty,c,b,rfl,ty',k,q _ _ s1 v7⟩
end
end IR
namespace L2
open PySem PySem.Spec PyProof.Rows
end L2
namespace IR
open PySem L2
section
variable{X:Cx}{Hi:Hp}{τ:En}
theorem uQ{x:PV}{q:Int×Int}(h:uR x=some q):x=tR q:=by
 cases x with
 | tup xs =>
  have h:((ak xs).bind fun ns=>match ns with
   | [a,b]=>some (a,b)
   | _=>none)=some q:=h
  cases e:ak xs with
  | none=>rw[e]at h;cases h
  | some ns =>
   rw[e]at h
   match ns,h with
   | [a,b],h =>
    cases h;have:xs=[PV.int a,PV.int b]:=by
     have key:∀(xs:List PV)(ns:List Int),ak xs=some ns->xs=ns.map PV.int:=by
      intro xs
      induction xs with
      | nil=>intro ns z;cases z;rfl
      | cons y r ih =>
       intro ns z;cases y with
       | int i =>
        have z:(ak r).map (i::·)=some ns:=z;cases e2:ak r with
        | none=>rw[e2]at z;cases z
        | some m=>rw[e2]at z;cases z;rw[ih m e2];rfl
       | _=>cases z
     exact key xs _ e
    subst this;rfl
 | _=>cases h
theorem j7:∀{xs:List PV}{ps:List (Int×Int)},gF xs=some ps->xs=ps.map tR
 | [],_,h=>by cases h;rfl
 | x::r,ps,h=>by
  have h:((uR x).bind fun q=>(gF r).map (q::·))=some ps:=h;cases e:uR x with
  | none=>rw[e]at h;cases h
  | some q =>
   rw[e]at h;have h:(gF r).map (q::·)=some ps:=h;cases e2:gF r with
   | none=>rw[e2]at h;cases h
   | some m =>
    rw[e2]at h;cases h;rw[uQ e,j7 e2];rfl
theorem aF.prs{n:Bool}{H:Hp}:∀{ps:List (Int×Int)}{us:List V},aF X.K Hi n (ps.map tR) H us->yn X.K H us ps
 | [],us,h=>by
  have h:us=[]:=by unfold aF at h;exact h
  subst h;exact .nil
 | q::ps,us,h=>by
  rw[BZ]at h;unfold aF at h;obtain⟨u,r,rfl,h1,h2⟩:=h;obtain⟨p,ws,rfl,l,rr⟩:=Rp.tup.mp h1;have e:ws=[V.int q.1,V.int q.2]:=by
   have:=(aF.ints (K:=X.K) (Hi:=Hi) (n:=n) (H:=H) (xs:=[q.1,q.2]) (us:=ws)).mp rr;exact this
  subst e;exact .cons l (aF.prs h2)
theorem aF.pick{n:Bool}{H:Hp}{xs:List PV}{us:List V}(r:aF X.K Hi n xs H us):∀{js:List Nat},(∀j∈js,j<us.length)->aF X.K Hi n (js.map fun i=>xs.getD i .non) H (js.map fun i=>us.getD i .non)
 | [],_=>.nil
 | j::js,h=>by
  have hj:=h j BN;obtain⟨x,hx,rx⟩:=r.at' (i:=j) (u:=us[j]) (BU hj);refine .cons ?_ (aF.pick r fun i hi=>h i (BF _ hi));dsimp only;rw[Bj,hx,Bj,BU hj];exact rx
theorem gA(ps:List (Int×Int)):(gB ps).Perm ps:=List.mergeSort_perm _ _
theorem pk(ps:List (Int×Int)):(gB ps).Pairwise fun a b=>SW.cI a<=SW.cI b:=by
 have:=List.pairwise_mergeSort (le:=fun a b:Int×Int=>decide (SW.cI a<=SW.cI b)) (fun a b c h1 h2=>by simp only[Cj]at *;omega) (fun a b=>by simp only[CH,Cj];omega) ps;exact this.imp fun h=>by simpa using h
theorem rP{a b:Int×Int}(ha:0<=a.2/\a.2<1000)(hb:0<=b.2/\b.2<1000)(h:SW.cI a=SW.cI b):a=b:=by
 unfold SW.cI at h;exact Prod.ext (by omega) (by omega)
theorem iW{ps qs:List (Int×Int)}(hb:∀q∈ps,0<=q.2/\q.2<1000)(p:qs.Perm ps)(s:qs.Pairwise fun a b=>SW.cI a<=SW.cI b):qs=gB ps :=
 List.Perm.eq_of_pairwise (le:=fun a b=>SW.cI a<=SW.cI b) (fun a b ha hb' h1 h2=>rP (hb _ (p.mem_iff.mp ha)) (hb _ ((gA ps).mem_iff.mp hb')) (by omega)) s (pk ps) (p.trans (gA ps).symm)
theorem lL{α:Type}(d:α)(xs:List α):(List.range xs.length).map (fun i=>xs.getD i d)=xs:=by
 apply List.ext_getElem (by simp)
 intro i h1 h2;simp[h2]
theorem kX:∀ps:List (Int×Int),imms (ps.map tR)=true
 | []=>rfl
 | q::ps=>by
  show(imm (tR q)&&imms (ps.map tR))=true;rw[kX ps];rfl
theorem pi{cd:Nat->List PV->Option PV}{ct:Ct}(C:bG cd X ct){a:Expr}{p pos:Pos}{ra r:RV}{xs:List PV}(ho:own ct ("sorted":Str)=true)(hs:isStar a=false)(ha:aG X Hi τ a ra)(e:ra.val=.lst xs)(h:pj xs=some r) :
  aG X Hi τ (.Call (.Name "sorted" p) [a] [] pos) r:=by
 unfold pj at h;cases eb:gF xs with
 | none=>rw[eb]at h;cases h
 | some ps =>
  rw[eb]at h;have h:(if ps.length<64/\ps.all (fun q=>decide (0<=q.2)&&decide (q.2<1000))=true then some (RV.own ((gB ps).map tR) true)else none)=some r:=h
  split at h
  ·rename_i c
   cases h;refine fB C eC ho PyProof.Rows.boot_sorted (by decide) hs ha fun O σ H H2 u Q R s r q=> ?_;obtain⟨p,us,rfl,l,r⟩:=r.lst R s e;have ex:=j7 eb;subst ex;have pr:=r.prs;have hl:=pr.len;have hb:∀q∈ps,0<=q.2/\q.2<1000:=fun q hq=>by
    have:=Bl.mp c.2 q hq
    simpa using this
   refine⟨p,us,ps,rfl,l,pr,by omega,hb,fun d js hd pm pw=>q _ _ (aP hd _) (dA s hd ?_)⟩;have hj:∀j∈js,j<us.length:=fun j hj=>DC.mp (pm.mem_iff.mp hj);have e1:js.map (fun i=>ps.getD i (0,0))=gB ps:=by
    refine iW hb ?_ ?_
    ·have:=pm.map fun i=>ps.getD i (0,0)
     rw[hl,lL]at this;exact this
    ·rw[List.pairwise_map]at pw ⊢
     exact pw
   have e2:js.map (fun i=>(ps.map tR).getD i .non)=(gB ps).map tR:=by
    rw[<- e1,List.map_map];refine C5 fun i hi=> ?_;have:=hj i hi;have lt:i<ps.length:=by omega
    simp[lt]
   have rp:=r.pick hj;rw[e2]at rp;exact rp.imm (kX _) (R.ext s).tups
  ·cases h
end
end IR
namespace IR
open PySem PySem.Spec PyProof.Rows L2
section
variable{X:Cx}{Hi:Hp}{τ:En}
theorem rK{cd:Nat->List PV->Option PV}{ct:Ct}(C:bG cd X ct){a:Expr}{p pos:Pos}{ra:RV}{n:Nat}(ho:own ct ("len":Str)=true)(hs:isStar a=false)(ha:aG X Hi τ a ra)(h:bJ ra.val=some n) :
  aG X Hi τ (.Call (.Name "len" p) [a] [] pos) (sc (.int n)):=by
 cases e:ra.val with
 | str z =>
  rw[e]at h;have h:(if z.length<=LN then some z.length else none)=some n:=h
  split at h
  ·rename_i c
   cases h;exact fB C jN ho PySem.boot_len (by decide) hs ha fun O σ H H2 u Q R s r q=>⟨z,by rw[r.str R s e],by rw[cT];exact c,q _ _ (aA.refl _) pI⟩
  ·cases h
 | lst xs =>
  rw[e]at h;cases h;refine fB C eD ho PySem.boot_len (by decide) hs ha fun O σ H H2 u Q R s r q=> ?_;obtain⟨p,us,rfl,l,r⟩:=r.lst R s e;exact⟨p,us,rfl,.inl l,by rw[<- r.len];exact q _ _ (aA.refl _) pI⟩
 | tup xs =>
  rw[e]at h;cases h;refine fB C eD ho PySem.boot_len (by decide) hs ha fun O σ H H2 u Q R s r q=> ?_;obtain⟨p,us,rfl,l,r⟩:=r.tup R s e;exact⟨p,us,rfl,.inr l,by rw[<- r.len];exact q _ _ (aA.refl _) pI⟩
 | dK ks vs =>
  rw[e]at h;cases h;refine fB C mF ho PySem.boot_len (by decide) hs ha fun O σ H H2 u Q R s r q=> ?_;have z:=r.val R s;rw[e]at z;unfold Rp at z;obtain⟨p,us,rfl,_,hp,hl,_⟩:=z;refine⟨p,_,rfl,.inl hp,?_⟩;have:(ks.zip us).length=ks.length:=by rw[List.length_zip,<-hl,Nat.min_self]
  rw[this];exact q _ _ (aA.refl _) pI
 | _=>rw[e]at h;cases h
theorem eW{x:Str}{k:Nat}{f:Bf}(h:kx x k=some f):(x="len"/\k=1/\f=.len)\/(x="int"/\k=1/\f=.int)\/(x="list"/\k=1/\f=.list)\/(x="tuple"/\k=1/\f=.tuple)\/(x="all"/\k=1/\f=.all)\/(x="min"/\k=2/\f=.min)\/(x="max"/\k=2/\f=.max)\/(x="abs"/\k=1/\f=.abs)\/(x="any"/\k=1/\f=.any)\/(x="sum"/\k=1/\f=.sum)\/(x="sorted"/\k=1/\f=.sorted):=by
 unfold kx at h
 split at h
 ·rename_i c;rw[BB]at c;cases h;exact .inl ⟨BW c.1,BW c.2,rfl⟩
 split at h
 ·rename_i c;rw[BB]at c;cases h;exact .inr (.inl ⟨BW c.1,BW c.2,rfl⟩)
 split at h
 ·rename_i c;rw[BB]at c;cases h;exact .inr (.inr (.inl ⟨BW c.1,BW c.2,rfl⟩))
 split at h
 ·rename_i c;rw[BB]at c;cases h;exact .inr (.inr (.inr (.inl ⟨BW c.1,BW c.2,rfl⟩)))
 split at h
 ·rename_i c;rw[BB]at c;cases h;exact .inr (.inr (.inr (.inr (.inl ⟨BW c.1,BW c.2,rfl⟩))))
 split at h
 ·rename_i c;rw[BB]at c;cases h;exact .inr (.inr (.inr (.inr (.inr (.inl ⟨BW c.1,BW c.2,rfl⟩)))))
 split at h
 ·rename_i c;rw[BB]at c;cases h;exact .inr (.inr (.inr (.inr (.inr (.inr (.inl ⟨BW c.1,BW c.2,rfl⟩))))))
 split at h
 ·rename_i c;rw[BB]at c;cases h;exact .inr (.inr (.inr (.inr (.inr (.inr (.inr (.inl ⟨BW c.1,BW c.2,rfl⟩)))))))
 split at h
 ·rename_i c;rw[BB]at c;cases h;exact .inr (.inr (.inr (.inr (.inr (.inr (.inr (.inr (.inl ⟨BW c.1,BW c.2,rfl⟩))))))))
 split at h
 ·rename_i c;rw[BB]at c;cases h;exact .inr (.inr (.inr (.inr (.inr (.inr (.inr (.inr (.inr (.inl ⟨BW c.1,BW c.2,rfl⟩)))))))))
 split at h
 ·rename_i c;rw[BB]at c;cases h;exact .inr (.inr (.inr (.inr (.inr (.inr (.inr (.inr (.inr (.inr (⟨BW c.1,BW c.2,rfl⟩))))))))))
 cases h
theorem yd{cd:Nat->List PV->Option PV}{ct:Ct}(C:bG cd X ct){x:Str}{f:Bf}{a:Expr}{p pos:Pos}{ra r:RV}(ho:own ct x=true)(hb:oy x 1=some f)(hs:isStar a=false)(ha:aG X Hi τ a ra)(h:mK f [ra]=some r) :
  aG X Hi τ (.Call (.Name x p) [a] [] pos) r:=by
 have hb:kx x 1=some f:=hb
 rcases eW hb with⟨rfl,_,rfl⟩|⟨rfl,_,rfl⟩|⟨rfl,_,rfl⟩|⟨rfl,_,rfl⟩|⟨rfl,_,rfl⟩|⟨_,z,_⟩|⟨_,z,_⟩|⟨rfl,_,rfl⟩|⟨rfl,_,rfl⟩|⟨rfl,_,rfl⟩|⟨rfl,_,rfl⟩
 ·have h:(bJ ra.val).map (fun n=>sc (.int (n:Nat)))=some r:=h
  cases e:bJ ra.val with
  | none=>rw[e]at h;cases h
  | some n =>
   rw[e]at h;cases h;exact rK C ho hs ha e
 ·unfold mK at h
  cases e:ra.val with
  | int i =>
   simp only[e]at h;cases h;exact mV C iM ho PyProof.Rows.boot_int (by decide) hs ha fun O σ H H2 u Q R s r q=>.inl ⟨i,by rw[r.int R s e],q _ _ (aA.refl _) pI⟩
  | bl i =>
   simp only[e]at h;cases h;exact mV C iM ho PyProof.Rows.boot_int (by decide) hs ha fun O σ H H2 u Q R s r q=>.inr ⟨i,by rw[r.bl R s e],q _ _ (aA.refl _) pI⟩
  | _=>simp only[e]at h;cases h
 ·have h:(match ra.its with|some (xs,n)=>some (RV.own xs n)|none=>none)=some r:=h
  cases e:ra.its with
  | none=>rw[e]at h;cases h
  | some w =>
   obtain⟨xs,n⟩:=w;rw[e]at h;cases h;refine mV C jM ho PyProof.Rows.boot_list (by decide) hs ha fun O σ H H2 u Q R s r q=> ?_;obtain⟨p,us,rfl,l,r⟩:=r.its R s e;exact⟨p,us,rfl,l.imp (·.1) (·.1),fun l2 hl=>q _ _ (aP hl _) (dA s hl r)⟩
 ·have h:(match ra.its with|some (xs,n)=>some (RV.frz (.tup xs) n)|none=>none)=some r:=h
  cases e:ra.its with
  | none=>rw[e]at h;cases h
  | some w =>
   obtain⟨xs,n⟩:=w;rw[e]at h;cases h;refine mV C dM ho PyProof.Rows.boot_tuple (by decide) hs ha fun O σ H H2 u Q R s r q=> ?_;obtain⟨p,us,rfl,l,r⟩:=r.its R s e;refine⟨p,us,rfl,l.imp (fun l=>⟨l.1,fun l2 hl=> ?_⟩) (fun l=>⟨l.1,?_⟩)⟩
   ·exact q _ _ (aP hl _) (Rp.tup.mpr ⟨l2,us,rfl,bI.of (jD R s hl),r.mono (aM (aP hl _))⟩)
   ·exact q _ _ (aA.refl _) (Rp.tup.mpr ⟨p,us,rfl,nQ R s l.1,r⟩)
 ·unfold mK at h
  cases e:ra.val with
  | lst xs =>
   simp only[e]at h;cases eb:eE xs with
   | none=>rw[eb]at h;cases h
   | some bs =>
    rw[eb]at h;cases h;refine fB C (kr C.calm) ho boot_all (by decide) hs ha fun O σ H H2 u Q R s r q=> ?_;obtain⟨p,us,rfl,l,r⟩:=r.lst R s e;have:=ku eb r;subst this;exact⟨p,bs,rfl,l,q _ _ (aA.refl _) v7⟩
  | _=>simp only[e]at h;cases h
 ·cases z
 ·cases z
 ·exact absurd (show(none:Option RV)=some r from h) (by simp)
 ·exact absurd (show(none:Option RV)=some r from h) (by simp)
 ·have h:(match ra.val with
   | .lst xs=>(ak xs).map fun ns=>sc (.int ns.sum)
   | _=>none)=some r:=h
  cases e:ra.val with
  | lst xs =>
   simp only[e]at h;cases eb:ak xs with
   | none=>rw[eb]at h;cases h
   | some bs =>
    rw[eb]at h;cases h;refine fB C (hE C.calm) ho boot_sum (by decide) hs ha fun O σ H H2 u Q R s r q=> ?_;obtain⟨p,us,rfl,l,r⟩:=r.lst R s e;have:=eM eb r;subst this;exact⟨p,bs,rfl,l,q _ _ (aA.refl _) pI⟩
  | _=>simp only[e]at h;cases h
 ·have h:(match ra.val with
   | .lst xs=>pq xs
   | _=>none)=some r:=h
  cases e:ra.val with
  | lst xs =>
   simp only[e]at h;unfold pq at h;cases eb:ak xs with
   | none =>
    rw[eb]at h;exact pi C ho hs ha e h
   | some bs =>
    rw[eb]at h;have h:(if bs.length<64 then some (RV.own ((L2.sortI bs).map PV.int) true)else none)=some r:=h
    split at h
    ·rename_i c
     cases h;refine fB C eS ho boot_sorted (by decide) hs ha fun O σ H H2 u Q R s r q=> ?_;obtain⟨p,us,rfl,l,r⟩:=r.lst R s e;have:=eM eb r;subst this;exact⟨p,bs,rfl,l,c,fun a ha=>q _ _ (aP ha _) (dA s ha (aF.ints.mpr rfl))⟩
    ·cases h
  | _=>simp only[e]at h;cases h
theorem yc{cd:Nat->List PV->Option PV}{ct:Ct}(C:bG cd X ct){x:Str}{f:Bf}{a b:Expr}{p pos:Pos}{ra rb r:RV}(ho:own ct x=true)(hb:oy x 2=some f)(hs:isStar a=false)(hs2:isStar b=false)(ha:aG X Hi τ a ra)(hb' :aG X Hi τ b rb)(h:mK f [ra,rb]=some r) :
  aG X Hi τ (.Call (.Name x p) [a,b] [] pos) r:=by
 refine CD fun no=> ?_;have hb:kx x 2=some f:=hb
 rcases eW hb with⟨_,z,_⟩|⟨_,z,_⟩|⟨_,z,_⟩|⟨_,z,_⟩|⟨_,z,_⟩|⟨rfl,_,rfl⟩|⟨rfl,_,rfl⟩|⟨_,z,_⟩|⟨_,z,_⟩|⟨_,z,_⟩|⟨_,z,_⟩
 ·cases z
 ·cases z
 ·cases z
 ·cases z
 ·cases z
 ·unfold mK at h
  cases e1:ra.val with
  | int i =>
   cases e2:rb.val with
   | int j =>
    simp only[e1,e2]at h;cases h;exact no<|b2_go C (ol C.calm) ho boot_min (by decide) hs hs2 ha hb' fun O σ H H2 u v Q R s r r2 q=>⟨i,j,by rw[r.int R s e1,r2.int R s e2],q _ _ (aA.refl _) pI⟩
   | _=>simp only[e1,e2]at h;cases h
  | _=>simp only[e1]at h;cases h
 ·unfold mK at h
  cases e1:ra.val with
  | int i =>
   cases e2:rb.val with
   | int j =>
    simp only[e1,e2]at h;cases h;exact no<|b2_go C (om C.calm) ho boot_max (by decide) hs hs2 ha hb' fun O σ H H2 u v Q R s r r2 q=>⟨i,j,by rw[r.int R s e1,r2.int R s e2],q _ _ (aA.refl _) pI⟩
   | _=>simp only[e1,e2]at h;cases h
  | _=>simp only[e1]at h;cases h
 ·cases z
 ·cases z
 ·cases z
 ·cases z
theorem aF.lrng{n:Bool}{H:Hp}(k:Nat):aF X.K Hi n (lrng k) H (wG k):=by
 unfold IR.lrng wG
 generalize List.range k=l
 induction l with
 | nil=>exact .nil
 | cons x l ih=>exact .cons (Rp.int.mpr rfl) ih
theorem jF(sep:Str):∀ys:List Str,Str.join sep ys=jG sep ys
 | []=>rfl
 | [x]=>rfl
 | x::y::r=>by
  show x++sep++Str.join sep (y::r)=_;rw[jF sep (y::r)];rfl
theorem join_ok{o a:Expr}{apos cpos:Pos}{ro ra r:RV}(hp:lM o=true)(hl:(apos.endLine==cpos.line)=true)(hs:isStar a=false)(h0:aG X Hi τ o ro)(ha:aG X Hi τ a ra)(h:oQ .join ro [ra]=some r) :
  aG X Hi τ (.Call (.Attribute o "join" apos) [a] [] cpos) r:=by
 have hbase:attributeBase o "join" X.env (eval o X.env)=eval o X.env:=by
  cases o<;>first|rfl|cases hp
 have key:∀(sep:Str)(ys:List Str)(hsep:ro.val=.str sep),(∀(O:List Addr)(σ:L2.St)(H H2:Hp)(u:V),aX X.K Hi O τ σ H->aA H H2->aR X.K Hi O H H2 ra u->∃p,u=.ref p/\(aj X.K H2 p (ys.map V.str)\/bI X.K H2 p (ys.map V.str))) ->
   (ys.map (·.length)).sum+ys.length*sep.length<=LN->aG X Hi τ (.Call (.Attribute o "join" apos) [a] [] cpos) (sc (.str (jG sep ys))):=by
  intro sep ys hsep pJ hz O σ H Q R q;refine we (qp PySem.F.plainAttrs_str PySem.F.slot_str_join PySem.F.type_str_join uq aS (aC aS aT (aW hs)) hbase (by rw[aW hs];rfl) hl (aW hs) rfl) ?_;refine h0 O σ H _ R fun u H1 s1 r1=> ?_;have e1:=r1.str R s1 hsep;subst e1;refine⟨rfl,ha O σ H1 _ (R.ext s1) fun v H2 s2 r2=> ?_⟩;obtain⟨p,rfl,hq⟩:=pJ O σ H H2 v R (s1.trans s2) (r2.back s1);refine⟨sep,p,ys,rfl,rfl,hq,hz,?_⟩;have e:Txt.join sep ys=jG sep ys:=(PySem.StrLaws.glued_eq_join _ _).trans (jF sep ys);rw[e];exact q _ _ (s1.trans s2) yx
 unfold oQ at h;cases e1:ro.val with
 | str sep =>
  cases e2:ra.val with
  | lst xs =>
   simp only[e1,e2]at h;cases et:dG xs with
   | none=>rw[et]at h;cases h
   | some ys =>
    rw[et]at h;have h:(if(ys.map (·.length)).sum+ys.length*sep.length<=LN then some (sc (.str (jG sep ys)))else none)=some r:=h
    split at h
    ·rename_i c
     cases h;refine key sep ys e1 (fun O σ H H2 u R s r=> ?_) c;obtain⟨p,us,rfl,l,r⟩:=r.lst R s e2;have:=fv et r;subst this;exact⟨p,rfl,.inl l⟩
    ·cases h
  | tup xs =>
   simp only[e1,e2]at h;cases et:dG xs with
   | none=>rw[et]at h;cases h
   | some ys =>
    rw[et]at h;have h:(if(ys.map (·.length)).sum+ys.length*sep.length<=LN then some (sc (.str (jG sep ys)))else none)=some r:=h
    split at h
    ·rename_i c
     cases h;refine key sep ys e1 (fun O σ H H2 u R s r=> ?_) c;obtain⟨p,us,rfl,l,r⟩:=r.tup R s e2;have:=fv et r;subst this;exact⟨p,rfl,.inr l⟩
    ·cases h
  | _=>simp only[e1,e2]at h;cases h
 | _=>simp only[e1]at h;cases h
theorem uV{b:Expr}(h:nN b=false):nj b:=by
 intro o i;cases b<;>first|rfl|cases h
theorem gj{n:Bool}{xs:List PV}{H:Hp}{us:List V}{k:Int}{e:PV}(r:aF X.K Hi n xs H us)(h:dN xs k=some e):∃u,dN us k=some u/\Rp X.K Hi n e H u:=by
 unfold dN at h ⊢;rw[<- r.len];cases c:uz xs.length k with
 | none=>rw[c]at h;cases h
 | some j =>
  rw[c]at h;exact r.at (i:=j) h
theorem rV(hun:X.A.units+64<cLine){a i:Expr}{pos:Pos}{x y r:RV}(hb:nN i=false)(ha:aG X Hi τ a x)(hi:aG X Hi τ i y)(h:index x y=some r):aG X Hi τ (.Subscript a i pos) r:=by
 have go:∀{rr:R2}(hr:Ay X rr),(∀(O:List Addr)(σ:L2.St)(H H2:Hp)(u v:V)(Q:VK),aX X.K Hi O τ σ H->aA H H2->aR X.K Hi O H H2 x u->aR X.K Hi O H H2 y v->(∀w,aR X.K Hi O H H2 r w->Q w H2)->rr u v H2 Q)->aG X Hi τ (.Subscript a i pos) r:=by
  intro rr hr k O σ H Q R q;refine we (qi hr aS aS (uV hb)) ?_;refine ha O σ H _ R fun u H1 s1 r1=>hi O σ H1 _ (R.ext s1) fun v H2 s2 r2=> ?_;exact k O σ H H2 u v Q R (s1.trans s2) (r1.ext s2) (r2.back s1) fun w r3=>q w H2 (s1.trans s2) r3
 unfold index at h
 split at h
 case h_1 k e2 =>
  unfold ixK at h
  split at h
  case h_1 xs n =>
   cases c:dN xs k with
   | none=>rw[c]at h;cases h
   | some e =>
    rw[c]at h;cases h;refine go dv fun O σ H H2 u v Q R s r1 r2 q=> ?_;obtain⟨p,us,rfl,_,l,r⟩:=Rp.lst.mp (show Rp X.K Hi n (.lst xs) (aN H2 O) u from r1);obtain⟨w,hw,rw'⟩:=gj r c;exact⟨p,us,k,w,rfl,r2.int R s e2,(aV (O:=O)).seq l,hw,q w (rw'.mono bB).up⟩
  case h_2 xs n =>
   cases c:dN xs k with
   | none=>rw[c]at h;cases h
   | some e =>
    rw[c]at h;cases h;refine go rR fun O σ H H2 u v Q R s r1 r2 q=> ?_;obtain⟨p,us,rfl,l,r⟩:=Rp.tup.mp (show Rp X.K Hi n (.tup xs) (aN H2 O) u from r1);obtain⟨w,hw,rw'⟩:=gj r c;exact⟨p,us,k,w,rfl,r2.int R s e2,(aV (O:=O)).tup l,hw,q w rw'.up⟩
  case h_3 xs n =>
   cases c:dN xs k with
   | none=>rw[c]at h;cases h
   | some e =>
    rw[c]at h;cases h;refine go dv fun O σ H H2 u v Q R s r1 r2 q=> ?_;obtain⟨p,us,rfl,h0,h1,r⟩:=r1;obtain⟨w,hw,rw'⟩:=gj r c;exact⟨p,us,k,w,rfl,r2.int R s e2,aj.of h1,hw,q w (rw'.mono (aM bB)).up⟩
  case h_4 xs =>
   cases c:dN xs k with
   | none=>rw[c]at h;cases h
   | some e =>
    rw[c]at h;cases h;refine go dv fun O σ H H2 u v Q R s r1 r2 q=> ?_;obtain⟨p,us,rfl,_,l,r⟩:=Rp.lst.mp (show Rp X.K Hi false (.lst xs) H2 u from r1);obtain⟨w,hw,rw'⟩:=gj r c;refine⟨p,us,k,w,rfl,r2.int R s e2,l,hw,q w ?_⟩;unfold kJ
    split
    ·rename_i im
     exact Rp.imm im (R.ext s).tups (rw'.mono bB)
    ·exact rw'.mono bB
  case h_5 xs =>
   cases c:dN xs k with
   | none=>rw[c]at h;cases h
   | some e =>
    rw[c]at h;cases h;refine go rR fun O σ H H2 u v Q R s r1 r2 q=> ?_;obtain⟨p,us,rfl,l,r⟩:=Rp.tup.mp (show Rp X.K Hi false (.tup xs) H2 u from r1);obtain⟨w,hw,rw'⟩:=gj r c;refine⟨p,us,k,w,rfl,r2.int R s e2,l,hw,q w ?_⟩;unfold kJ
    split
    ·rename_i im
     exact Rp.imm im (R.ext s).tups rw'
    ·exact rw'
  case h_6 z n =>
   split at h
   ·rename_i hz
    cases c:dN z.cps.toList k with
    | none=>rw[c]at h;cases h
    | some e =>
     rw[c]at h;cases h;exact go xw fun O σ H H2 u v Q R s r1 r2 q=>⟨z,k,e,r1.str R s rfl,r2.int R s e2,by rw[cT];exact hz,c,q _ yx⟩
   ·cases h
  case h_7=>cases h
 case h_2=>cases h
variable(X Hi τ)in
noncomputable def o4(e:Option Expr)(o:Option Int):Prop:=match e,o with
 | none,none=>True
 | some e,some i=>∃r,aG X Hi τ e r/\r.val=.int i
 | _,_=>False
theorem cc{a:Expr}{lo hi:Option Expr}{l h:Option Int}{p2 pos:Pos}{x r:RV}{rr:V->Option Int->Option Int->Hp->VK->Prop}(hr:yz X rr)(ha:aG X Hi τ a x)(hl:o4 X Hi τ lo l)(hh:o4 X Hi τ hi h)
  (k:∀(O:List Addr)(σ:L2.St)(H H2:Hp)(u:V)(Q:VK),aX X.K Hi O τ σ H->aA H H2->aR X.K Hi O H H2 x u->(∀w H3,aA H2 H3->aR X.K Hi O H H3 r w->Q w H3)->rr u l h H2 Q):aG X Hi τ (.Subscript a (.Slice lo hi none p2) pos) r:=by
 have part:∀{e:Option Expr}{o:Option Int},o4 X Hi τ e o->∃t,PO X e t/\∀(O:List Addr)(σ:L2.St)(H:Hp)(Q:Option Int->Hp->Prop),aX X.K Hi O τ σ H->(∀H',aA H H' ->Q o H')->t σ H Q:=by
  intro e o he;cases e with
  | none =>
   cases o with
   | none=>exact⟨_,uU,fun O σ H Q R q=>q H (aA.refl _)⟩
   | some i=>cases he
  | some e =>
   cases o with
   | none=>cases he
   | some i =>
    obtain⟨r,h1,h2⟩:=he;exact⟨_,uT aS,fun O σ H Q R q=>h1 O σ H _ R fun u H1 s1 r1=>⟨i,r1.int R s1 h2,q _ s1⟩⟩
 obtain⟨tl,pl,ql⟩:=part hl;obtain⟨th,ph,qh⟩:=part hh;intro O σ H Q R q;refine we (qZ hr aS pl ph) ?_;refine ha O σ H _ R fun u H1 s1 r1=>ql O σ H1 _ (R.ext s1) fun H2 s2=>qh O σ H2 _ (R.ext (s1.trans s2)) fun H3 s3=> ?_;exact k O σ H H3 u Q R (s1.trans (s2.trans s3)) (r1.ext (s2.trans s3)) fun w H4 s4 r4=>q w H4 (s1.trans (s2.trans (s3.trans s4))) r4
theorem aF.cut{n:Bool}{xs:List PV}{H:Hp}{us:List V}(r:aF X.K Hi n xs H us)(lo hi:Option Int):aF X.K Hi n (IR.cut xs lo hi) H (km us lo hi):=by
 unfold IR.cut km;rw[<- r.len];exact(r.drop _).take _
theorem aR.whole{O:List Addr}{σ:L2.St}{H H' :Hp}{x:RV}{u:V}{xs ys:List PV}{n:Bool}(R:aX X.K Hi O τ σ H)(s:aA H H')(h:aR X.K Hi O H H' x u)(e:x.its=some (xs,n))(ev:x.val=.tup ys):aR X.K Hi O H H' (.frz (.tup xs) n) u:=by
 cases x with
 | frz w m =>
  obtain rfl:w=.tup ys:=ev;cases e;exact h
 | bor w =>
  obtain rfl:w=.tup ys:=ev;have e:(if imms ys then some (ys,true)else none)=some (xs,n):=e
  split at e
  ·rename_i i
   cases e;exact Rp.imm (by rw[imm];exact i) (R.ext s).tups (show Rp X.K Hi false (.tup _) H' u from h)
  ·cases e
 | own ys m=>cases ev
 | owd b ys m=>cases b<;>cases ev
theorem qA{a:Expr}{lo hi:Option Expr}{l h:Option Int}{p2 pos:Pos}{x r:RV}(ha:aG X Hi τ a x)(hl:o4 X Hi τ lo l)(hh:o4 X Hi τ hi h)(e:slice x l h=some r):aG X Hi τ (.Subscript a (.Slice lo hi none p2) pos) r:=by
 unfold slice at e
 split at e
 case h_1 z ev =>
  split at e
  ·rename_i hz
   split at e
   ·rename_i k
    split at e
    ·rename_i hk
     cases e;refine cc qB ha hl hh fun O σ H H2 u Q R s r1 q=>⟨z,r1.str R s ev,by rw[cT];exact hz,?_⟩;have e1:Txt.slice z none (some k)=(⟨(z.cps.toList.take k.toNat).toArray⟩:Str):=by
      refine UM.cx ?_;have:=nw z k.toNat;rw[show((k.toNat:Nat):Int)=k by omega]at this;rw[this]
     rw[e1];exact q _ _ (aA.refl _) yx
    ·cases e
   ·rename_i k
    split at e
    ·rename_i hk
     cases e;refine cc qB ha hl hh fun O σ H H2 u Q R s r1 q=>⟨z,r1.str R s ev,by rw[cT];exact hz,?_⟩;have e1:Txt.slice z (some k) none=(⟨(z.cps.toList.drop k.toNat).toArray⟩:Str):=by
      refine UM.cx ?_;have:=nu z k.toNat;rw[show((k.toNat:Nat):Int)=k by omega]at this;rw[this]
     rw[e1];exact q _ _ (aA.refl _) yx
    ·cases e
   ·cases e
  ·cases e
 case h_2 ev =>
  cases ei:x.its with
  | none=>rw[ei]at e;cases e
  | some w =>
   obtain⟨xs,n⟩:=w;rw[ei]at e;cases e;refine cc uA ha hl hh fun O σ H H2 u Q R s r1 q=> ?_;obtain⟨p,us,rfl,l1,r2⟩:=r1.itsL R s ei ev;exact⟨p,us,rfl,l1,fun p3 hp=>q _ _ (aP hp _) (dA s hp (r2.up.cut _ _))⟩
 case h_3 ev =>
  cases ei:x.its with
  | none=>rw[ei]at e;cases e
  | some w =>
   obtain⟨xs,n⟩:=w;rw[ei]at e;dsimp only at e
   split at e
   ·rename_i hw
    cases e;refine cc tw ha hl hh fun O σ H H2 u Q R s r1 q=> ?_;obtain⟨p,us,rfl,l1,r2⟩:=r1.itsT R s ei ev;exact⟨p,us,rfl,l1,by rw[<- r2.len];exact hw,q _ _ (aA.refl _) (r1.whole R s ei ev)⟩
   ·rename_i hw
    cases e;refine cc wu ha hl hh fun O σ H H2 u Q R s r1 q=> ?_;obtain⟨p,us,rfl,l1,r2⟩:=r1.itsT R s ei ev;refine⟨p,us,rfl,l1,by rw[<- r2.len];exact hw,fun p3 hp=>q _ _ (aP hp _) ?_⟩;exact Rp.tup.mpr ⟨p3,_,rfl,bI.of (jD R s hp),(r2.cut _ _).mono (aM (aP hp _))⟩
 case h_4=>cases e
end
end IR
namespace IR
open PySem L2
section
variable{X:Cx}{Hi:Hp}{τ:En}
end
end IR
namespace IR
open PySem PySem.Spec PyProof.Rows L2
section
variable{X:Cx}{Hi:Hp}{τ:En}
noncomputable def WI(X:Cx)(tg iter:Expr)(σ:L2.St)(H:Hp)(R:It->Hp->Prop):Prop:=∃wi,PI X tg iter wi/\wi σ H R
theorem xK{tg iter:Expr}:PI X tg iter (fun σ H R=>WI X tg iter σ H R):=fun pins s σ H R I ⟨wi,h,q⟩=>h pins s σ H R I q
noncomputable def mP(O:List Addr)(H:Hp):Prop:=∀l∈O,∃o,H l=some o/\Mo o
theorem aX.lsts{K:W.Frag}{O:List Addr}{σ:L2.St}{H:Hp}(R:aX K Hi O τ σ H):mP O H:=fun l hl=>(R.own l hl).2
noncomputable def wO(B:Hp)(H:Hp)(O:List Addr):Prop:=mP O H/\aA B (aN H O)
noncomputable def OkB(B:Hp)(H:Hp)(O:List Addr):Prop:=mP O H/\aA B H
theorem mP.tups{O:List Addr}{H:Hp}(h:mP O H):mM H (aN H O):=by
 refine eF.tups fun l hl=> ?_;obtain⟨us,e,mo⟩:=h l hl;exact mo.noTup e
variable(X Hi)in
structure fC(J:It)(Ok:Hp->List Addr->Prop)(xs:List PV)(n:Bool):Prop where
 go:∀(H:Hp)(O:List Addr)(i:Nat),Ok H O->i<xs.length->J.go i H
 stop:∀(H:Hp)(O:List Addr),Ok H O->J.stop xs.length H
 yld:∀(H:Hp)(O:List Addr)(i:Nat)(u:V)(H' :Hp),Ok H O->i<xs.length->J.yld i H u H' ->aA H H' /\∃x,xs[i]? =some x/\Rp X.K Hi n x (aN H' O) u
variable(X Hi τ)in
noncomputable def k6(tg iter:Expr)(xs:List PV)(n b:Bool):Prop:=∀(O:List Addr)(σ:L2.St)(H:Hp)(R:It->Hp->Prop),aX X.K Hi O τ σ H ->
 (∀J H1,aA H H1->fC X Hi J (if b=true then OkB H1 else wO (aN H1 O)) xs n->R J H1)->WI X tg iter σ H R
theorem wI{B:Hp}{p:Addr}{us:List V}{xs:List PV}{n:Bool}(l:aj X.K B p us)(r:aF X.K Hi n xs B us):fC X Hi (Itl X.K p) (wO B) xs n where
 go:=fun H O i ok hi=>⟨us,us[i]'(by rw[<- r.len];exact hi),(ok.2.trans aV).seq l,by simp⟩
 stop:=fun H O ok=>⟨us,(ok.2.trans aV).seq l,by rw[r.len];exact BD _⟩
 yld:=fun H O i u H' ok hi y=>by
  obtain⟨e,y⟩:=y;subst e;obtain⟨x,h1,h2⟩:=r.at' (y us ((ok.2.trans aV).seq l));exact⟨aA.refl _,x,h1,h2.mono ok.2⟩
theorem Ac{B:Hp}{p:Addr}{us:List V}{xs:List PV}{n:Bool}(l:bI X.K B p us)(r:aF X.K Hi n xs B us):fC X Hi (Itt X.K p) (wO B) xs n where
 go:=fun H O i ok hi=>⟨us,us[i]'(by rw[<- r.len];exact hi),(ok.2.trans aV).tup l,by simp⟩
 stop:=fun H O ok=>⟨us,(ok.2.trans aV).tup l,by rw[r.len];exact BD _⟩
 yld:=fun H O i u H' ok hi y=>by
  obtain⟨e,y⟩:=y;subst e;obtain⟨x,h1,h2⟩:=r.at' (y us ((ok.2.trans aV).tup l));exact⟨aA.refl _,x,h1,h2.mono ok.2⟩
theorem yS{B:Hp}{p:Addr}{us:List V}{xs:List PV}{n m:Bool}(l:aj X.K B p us)(r:aF X.K Hi m xs B us)(im:imms xs=true):fC X Hi (Itl X.K p) (OkB B) xs n where
 go:=fun H O i ok hi=>⟨us,us[i]'(by rw[<- r.len];exact hi),ok.2.seq l,by simp⟩
 stop:=fun H O ok=>⟨us,ok.2.seq l,by rw[r.len];exact BD _⟩
 yld:=fun H O i u H' ok hi y=>by
  obtain⟨e,y⟩:=y;subst e;have r2:aF X.K Hi n xs (aN H' O) us:=aF.imm im ok.1.tups (r.mono ok.2);obtain⟨x,h1,h2⟩:=r2.at' (y us (ok.2.seq l));exact⟨aA.refl _,x,h1,h2⟩
theorem yR{B:Hp}{p:Addr}{us:List V}{xs:List PV}{n m:Bool}(l:bI X.K B p us)(r:aF X.K Hi m xs B us)(im:imms xs=true):fC X Hi (Itt X.K p) (OkB B) xs n where
 go:=fun H O i ok hi=>⟨us,us[i]'(by rw[<- r.len];exact hi),ok.2.tup l,by simp⟩
 stop:=fun H O ok=>⟨us,ok.2.tup l,by rw[r.len];exact BD _⟩
 yld:=fun H O i u H' ok hi y=>by
  obtain⟨e,y⟩:=y;subst e;have r2:aF X.K Hi n xs (aN H' O) us:=aF.imm im ok.1.tups (r.mono ok.2);obtain⟨x,h1,h2⟩:=r2.at' (y us (ok.2.tup l));exact⟨aA.refl _,x,h1,h2⟩
theorem eH(z:Str):(signs z).length=z.cps.size:=by unfold signs;rw[BJ,Br]
theorem signs_at{z:Str}{i:Nat}{c:Nat}(h:z.cps[i]? =some c):(signs z)[i]? =some (.str ⟨#[c]⟩):=by
 unfold signs;rw[Bi,Array.getElem?_toList,h];rfl
theorem Ad{B:Hp}{z:Str}{n:Bool}:fC X Hi (A0 z) (wO B) (signs z) n where
 go:=fun H O i ok hi=>by rw[eH]at hi;exact hi
 stop:=fun H O ok=>by show(signs z).length=z.cps.size;exact eH z
 yld:=fun H O i u H' ok hi y=>by
  obtain⟨e,c,hc,rfl⟩:=y;subst e;exact⟨aA.refl _,_,signs_at hc,Rp.str.mpr rfl⟩
theorem nW{B:Hp}{lo:Int}{k:Nat}{n:Bool}:fC X Hi (A1 lo k) (wO B) ((List.range k).map fun i=>.int (lo+(i:Nat))) n where
 go:=fun H O i ok hi=>by show i<k;simpa using hi
 stop:=fun H O ok=>by show k<=_;simp
 yld:=fun H O i u H' ok hi y=>by
  obtain⟨e,rfl⟩:=y;subst e;have hi:i<k:=by simpa using hi
  exact⟨aA.refl _,_,by rw[Bi,List.getElem?_range hi];rfl,Rp.int.mpr rfl⟩
theorem sN{B:Hp}{lo c:Int}{k:Nat}{n:Bool}:fC X Hi (Itc lo c k) (wO B) ((List.range k).map fun i=>.int (lo+(i:Nat)*c)) n where
 go:=fun H O i ok hi=>by show i<k;simpa using hi
 stop:=fun H O ok=>by show _=k;simp
 yld:=fun H O i u H' ok hi y=>by
  obtain⟨e,rfl⟩:=y;subst e;have hi:i<k:=by simpa using hi
  exact⟨aA.refl _,_,by rw[Bi,List.getElem?_range hi];rfl,Rp.int.mpr rfl⟩
theorem ww{tg e:Expr}{r:RV}{xs:List PV}{n b:Bool}(he:aG X Hi τ e r)(h:iD r=some (xs,n,b)):k6 X Hi τ tg e xs n b:=by
 intro O σ H R Rl q;cases r with
 | frz v m =>
  cases v with
  | str z =>
   cases h;refine⟨_,xL aS,?_⟩;exact he O σ H _ Rl fun u H1 s1 r1=>⟨z,r1.str Rl s1 rfl,q _ _ s1 Ad⟩
  | lst ys =>
   cases h;refine⟨_,ij aS,?_⟩;refine he O σ H _ Rl fun u H1 s1 r1=> ?_;obtain⟨p,us,rfl,_,l,r⟩:=Rp.lst.mp (show Rp X.K Hi n (.lst xs) (aN H1 O) u from r1);exact⟨p,rfl,⟨us,(aV (O:=O)).seq l⟩,q _ _ s1 (wI l (r.mono bB))⟩
  | tup ys =>
   cases h;refine⟨_,qX aS,?_⟩;refine he O σ H _ Rl fun u H1 s1 r1=> ?_;obtain⟨p,us,rfl,l,r⟩:=Rp.tup.mp (show Rp X.K Hi n (.tup xs) (aN H1 O) u from r1);exact⟨p,rfl,⟨us,(aV (O:=O)).tup l⟩,q _ _ s1 (Ac l r)⟩
  | _=>cases h
 | bor v =>
  cases v with
  | lst ys =>
   have h:(if imms ys then some (ys,true,true)else none)=some (xs,n,b):=h
   split at h
   ·rename_i im
    cases h;refine⟨_,ij aS,?_⟩;refine he O σ H _ Rl fun u H1 s1 r1=> ?_;obtain⟨p,us,rfl,_,l,r⟩:=Rp.lst.mp (show Rp X.K Hi false (.lst xs) H1 u from r1);exact⟨p,rfl,⟨us,l⟩,q _ _ s1 (yS l (r.mono bB) im)⟩
   ·cases h
  | tup ys =>
   have h:(if imms ys then some (ys,true,true)else none)=some (xs,n,b):=h
   split at h
   ·rename_i im
    cases h;refine⟨_,qX aS,?_⟩;refine he O σ H _ Rl fun u H1 s1 r1=> ?_;obtain⟨p,us,rfl,l,r⟩:=Rp.tup.mp (show Rp X.K Hi false (.tup xs) H1 u from r1);exact⟨p,rfl,⟨us,l⟩,q _ _ s1 (yR l r im)⟩
   ·cases h
  | _=>cases h
 | owd bd ys m=>cases h
 | own ys m =>
  cases h;refine⟨_,ij aS,?_⟩;refine he O σ H _ Rl fun u H1 s1 r1=> ?_;obtain⟨p,us,rfl,h0,h1,r⟩:=r1;have hl:aN H1 O p=some (.lst us):=by
   unfold aN;rw[BI fun z=> ?_]
   ·exact h1
   ·obtain⟨vs,e',_⟩:=(Rl.own p z).2
    rw[h0]at e';cases e'
  exact⟨p,rfl,⟨us,aj.of h1⟩,q _ _ s1 (wI (aj.of hl) (r.mono (aM bB)))⟩
theorem xA{cd:Nat->List PV->Option PV}{ct:Ct}(C:bG cd X ct){tg:Expr}{es:List Expr}{p pos:Pos}{rs:List RV}{xs:List PV}(ho:own ct ("range":Str)=true)(hs:∀a∈es,isStar a=false)(ha:jU X Hi τ es rs)(hl:es.length=rs.length)(h:oA rs=some xs) :
  k6 X Hi τ tg (.Call (.Name "range" p) es [] pos) xs true false:=by
 intro O σ H R Rl q;obtain⟨g,hm⟩:=gS C ho;unfold oA at h
 split at h
 ·rename_i ra
  cases e:ra.val with
  | int j =>
   simp only[e]at h
   split at h
   ·rename_i c
    cases h
    match es,hl with
    | [a],_ =>
     refine⟨_,oJ g hm lS (aW (hs a (by simp))),?_⟩;refine ha O σ H _ Rl fun us H1 s1 r1=> ?_;obtain⟨u,vs,rfl,r2,z⟩:=r1;cases z;exact⟨j,by rw[r2.int Rl s1 e],c.1,c.2,q _ _ s1 nW⟩
   ·cases h
  | _=>simp only[e]at h;cases h
 ·rename_i ra rb
  cases e:ra.val with
  | int i =>
   cases e2:rb.val with
   | int j =>
    simp only[e,e2]at h
    split at h
    ·rename_i c
     cases h
     match es,hl with
     | [a,b],_ =>
      have h1:starEach [a,b] X.env=[(false,eval a X.env),(false,eval b X.env)]:=by rw[aW (hs a (by simp)),aW (hs b (by simp))];rfl
      refine⟨_,oH g hm lS h1 (aW (hs b (by simp))),?_⟩;refine ha O σ H _ Rl fun us H1 s1 r1=> ?_;obtain⟨u,vs,rfl,r2,u2,vs2,rfl,r3,z⟩:=r1;cases z;exact⟨i,j,by rw[r2.int Rl s1 e,r3.int Rl s1 e2],c,q _ _ s1 nW⟩
    ·cases h
   | _=>simp only[e,e2]at h;cases h
  | _=>simp only[e]at h;cases h
 ·rename_i ra rb rc
  cases e:ra.val with
  | int i =>
   cases e2:rb.val with
   | int j =>
    cases e3:rc.val with
    | int k =>
     simp only[e,e2,e3]at h
     split at h
     ·rename_i c
      cases h
      match es,hl with
      | [a,b,d],_ =>
       refine⟨_,oG g hm lS (aW (hs a (by simp))) (dt fun z hz=>hs z (by simp at hz ⊢;rcases hz with rfl|rfl<;>simp)),?_⟩;refine ha O σ H _ Rl fun us H1 s1 r1=> ?_;obtain⟨u,vs,rfl,r2,u2,vs2,rfl,r3,u3,vs3,rfl,r4,z⟩:=r1;cases z;exact⟨i,j,k,by rw[r2.int Rl s1 e,r3.int Rl s1 e2,r4.int Rl s1 e3],c.1,c.2.1,c.2.2,q _ _ s1 sN⟩
     ·cases h
    | _=>simp only[e,e2,e3]at h;cases h
   | _=>simp only[e,e2]at h;cases h
  | _=>simp only[e]at h;cases h
 ·cases h
theorem nH{O:List Addr}{σ:L2.St}{H H1:Hp}{r:RV}{xs:List PV}{n:Bool}{u:V}(R:aX X.K Hi O τ σ H)(s:aA H H1)(h:ut r=some (xs,n))(ok:aR X.K Hi O H H1 r u):∃p us,u=.ref p/\aj X.K (aN H1 O) p us/\aF X.K Hi n xs (aN H1 O) us:=by
 cases r with
 | frz v m =>
  cases v with
  | lst ys =>
   cases h;obtain⟨p,us,rfl,_,l,r⟩:=Rp.lst.mp (show Rp X.K Hi n (.lst xs) (aN H1 O) u from ok);exact⟨p,us,rfl,l,r.mono bB⟩
  | _=>cases h
 | bor v=>cases h
 | owd bd ys m=>cases h
 | own ys m =>
  cases h;obtain⟨p,us,rfl,h0,h1,r⟩:=ok;have hl:aN H1 O p=some (.lst us):=by
   unfold aN;rw[BI fun z=> ?_]
   ·exact h1
   ·obtain⟨vs,e',_⟩:=(R.own p z).2
    rw[h0]at e';cases e'
  exact⟨p,us,rfl,aj.of hl,r.mono (aM bB)⟩
theorem um{O:List Addr}{H:Hp}{p:Addr}{us:List V}{xs:List PV}{n:Bool}(l:mP O H)(hp:H p=none)(r:aF X.K Hi n xs (aN H O) us):Rp X.K Hi n (.tup xs) (aN (L2.upd H p (.tup us)) O) (.ref p):=by
 refine Rp.tup.mpr ⟨p,us,rfl,bI.of ?_,r.mono (aM (aP hp _))⟩;unfold aN;rw[BI fun z=> ?_]
 ·exact aD
 ·obtain⟨us,e,_⟩:=l p z
  rw[e]at hp;cases hp
theorem wR{cd:Nat->List PV->Option PV}{ct:Ct}(C:bG cd X ct){ts:List Expr}{kt:Nat}{tpos:Pos}{a b:Expr}{p pos:Pos}{ra rb:RV}{xs:List PV}{n:Bool}(ho:own ct ("zip":Str)=true)(hs:isStar a=false)(hs2:isStar b=false)(ha:aG X Hi τ a ra)(hb:aG X Hi τ b rb)(h:pM ra rb=some (xs,n)) :
  k6 X Hi τ (.Tuple ts kt tpos) (.Call (.Name "zip" p) [a,b] [] pos) xs n false:=by
 intro O σ H R Rl q;obtain⟨g,hm⟩:=gS C ho;unfold pM at h
 split at h
 ·rename_i ys n1 zs n2 e1 e2
  split at h
  ·rename_i hlen
   cases h;refine⟨_,qW g hm (aC aS (aC aS aT (aW hs2)) (aW hs)) (aW hs) (dt fun c hc=>by simp at hc;subst hc;exact hs2),?_⟩;refine ha O σ H _ Rl fun u H1 s1 r1=>hb O σ H1 _ (Rl.ext s1) fun v H2 s2 r2=> ?_;obtain⟨p1,us,rfl,l1,q1⟩:=nH Rl (s1.trans s2) e1 (r1.ext s2);obtain⟨p2,vs,rfl,l2,q2⟩:=nH Rl (s1.trans s2) e2 (r2.back s1);refine⟨p1,p2,us,vs,rfl,(aV (O:=O)).seq l1,(aV (O:=O)).seq l2,q _ _ (s1.trans s2) ?_⟩;have z1:=q1.len;have z2:=q2.len;have zl:(List.zipWith mv ys zs).length=us.length:=by rw[List.length_zipWith,<-hlen,Nat.min_self];exact z1
   refine⟨fun G P i ok hi=> ?_,fun G P ok=> ?_,fun G P i w G' ok hi y=> ?_⟩
   ·rw[zl]at hi
    exact⟨us,vs,us[i],vs[i]'(by omega),(ok.2.trans aV).seq l1,(ok.2.trans aV).seq l2,by simp,by simp⟩
   ·exact⟨us,vs,(ok.2.trans aV).seq l1,(ok.2.trans aV).seq l2,.inl (by rw[zl];exact BD _)⟩
   ·rw[zl]at hi
    obtain⟨p3,hp3,rfl,y⟩:=y;have e:=y us vs us[i] (vs[i]'(by omega)) ((ok.2.trans aV).seq l1) ((ok.2.trans aV).seq l2) (by simp) (by simp);subst e;obtain⟨x1,hx1,rx1⟩:=q1.at' (i:=i) (u:=us[i]) (by simp);obtain⟨x2,hx2,rx2⟩:=q2.at' (i:=i) (u:=vs[i]'(by omega)) (by simp);refine⟨aP hp3 _,mv x1 x2,by rw[List.getElem?_zipWith,hx1,hx2],um ok.1 hp3 (.cons ((rx1.mono ok.2).low fun z=> ?_) (.cons ((rx2.mono ok.2).low fun z=> ?_) .nil))⟩
    ·rw[BB]at z;exact z.1
    ·rw[BB]at z;exact z.2
  ·cases h
 ·cases h
theorem iB{N:List Str}:∀{xs:List Str}{is:List Nat},slots N xs=some is->xs.length=is.length
 | [],is,h=>by cases h;rfl
 | x::xs,is,h=>by
  unfold slots at h;cases e:slot N x with
  | none=>rw[e]at h;cases h
  | some i =>
   rw[e]at h;cases e2:slots N xs with
   | none=>simp[e2]at h
   | some js =>
    simp[e2]at h;subst h;simp[iB e2]
theorem jt{N:List Str}:∀{xs:List Str}{is:List Nat}{j i:Nat},slots N xs=some is->is[j]? =some i->∃x,xs[j]? =some x/\N[i]? =some x
 | [],is,j,i,h,hj=>by cases h;simp at hj
 | x::xs,is,j,i,h,hj=>by
  unfold slots at h;cases e:slot N x with
  | none=>rw[e]at h;cases h
  | some i0 =>
   rw[e]at h;cases e2:slots N xs with
   | none=>simp[e2]at h
   | some js =>
    simp[e2]at h;subst h;cases j with
    | zero =>
     simp at hj;subst hj;exact⟨x,by simp,cy e⟩
    | succ j=>simpa using jt e2 (by simpa using hj)
theorem gN{ct:Ct}{t:Str}{scope:Scope}(h:oV ct t scope=true):scope.kind=.function/\(∀y∈scope.names,y.2=.cell->scope.names.lookup y.1=some .cell)/\(∀y∈scope.names,y.2=.local->scope.names.lookup y.1=some .local) /\
  (∀y∈scope.names,y.2=.free->(ct.S.lookup y.1=some .cell\/ct.S.lookup y.1=some .free))/\(t::frees scope).Nodup/\(scope.names.lookup t=some .local\/scope.names.lookup t=some .cell)/\∀x∈frees scope,scope.names.lookup x=some .free:=by
 unfold oV at h;simp only[BB]at h;obtain⟨⟨⟨⟨⟨⟨h1,h2⟩,h3⟩,h4⟩,h5⟩,h6⟩,h7⟩:=h;refine⟨BW h1,fun y hy e=> ?_,fun y hy e=> ?_,fun y hy e=> ?_,Bs h5,by simpa using h6,fun x hx=> ?_⟩
 ·have:=Bl.mp h2 y hy
  rw[e]at this
  simpa using this
 ·have:=Bl.mp h3 y hy
  rw[e]at this
  simpa using this
 ·have:=Bl.mp h4 y hy
  rw[e]at this
  simpa using this
 ·have:=Bl.mp h7 x hx
  simpa using this
theorem dk{env:Env}:∀{names:List (Str×NameKind)}{x:Str},names.lookup x=some .cell ->
  (names.map fun(n,k)=>if(k==NameKind.free&&env.scope.kind== .function&&env.kindOf n==some .cell)then(n,NameKind.cell)else(n,k)).lookup x=some .cell
 | [],_,h=>by simp at h
 | (n,k)::r,x,h=>by
  have ih:= @dk env r x;show List.lookup x ((if(k==NameKind.free&&env.scope.kind== .function&&env.kindOf n==some .cell)=true then(n,NameKind.cell)else(n,k))::_)=_;cases hx:x==n with
  | true =>
   simp only[Bb,hx]at h;cases h;rw[BI (by simp)];simp only[Bb,hx]
  | false =>
   simp only[Bb,hx]at h
   by_cases hc:(k==NameKind.free&&env.scope.kind== .function&&env.kindOf n==some .cell)=true
   ·rw[BK hc];simp only[Bb,hx];exact ih h
   ·rw[BI hc];simp only[Bb,hx];exact ih h
theorem tq{N' :List Str}{scope:Scope}{Cf:Addr}{s2:Shared}{H2:Hp}{fp:List Addr}{cl:List (Str×Addr)}{t:Str}(h:scope.names.lookup t=some .local\/scope.names.lookup t=some .cell):L2.Loc (am X N' scope Cf s2 H2 fp cl).env.scope t:=by
 rcases h with h|h
 ·exact .inl (lookup_relabel_local h)
 ·exact .inr (dk h)
theorem wj{N' :List Str}{scope:Scope}{Cf:Addr}{s2:Shared}{H2:Hp}{fp:List Addr}{cl:List (Str×Addr)}{t:Str}(h:scope.names.lookup t=some .local\/scope.names.lookup t=some .cell):(am X N' scope Cf s2 H2 fp cl).fn t=true\/(am X N' scope Cf s2 H2 fp cl).env.scope.names.lookup t=some .local:=by
 rcases h with h|h
 ·exact .inr (lookup_relabel_local h)
 ·left
  show(scope.names.lookup t==some .cell)=true;rw[h];rfl
theorem bG.blk{cd:Nat->List PV->Option PV}{ct:Ct}(C:bG cd X ct){t:Str}{scope:Scope}(h:oV ct t scope=true)(Cf:Addr)(s2:Shared)(H2:Hp)(fp:List Addr)(cl:List (Str×Addr)):bG cd (am X (t::frees scope) scope Cf s2 H2 fp cl) (blk ct t scope):=by
 obtain⟨h1,h2,h3,h4,h5,h6,h7⟩:=gN h;refine⟨rfl,h5,?_,h1,C.calm,C.glob,C.bl,C.fns,DG,C.un⟩;show(scope.names.map fun(n,k)=>if(k==NameKind.free&&X.env.scope.kind== .function&&X.env.kindOf n==some .cell)then(n,NameKind.cell)else(n,k))=qE ct.S scope.names;unfold qE;refine C5 fun y hy=> ?_;obtain⟨n,k⟩:=y;have e:(X.env.scope.kind==ScopeKind.function)=true:=by rw[C.kind];rfl
 have e2:X.env.kindOf n=ct.S.lookup n:=by
  show X.env.scope.names.lookup n=_;rw[C.S]
 dsimp only;rw[e,e2]
theorem jr{cd:Nat->List PV->Option PV}{ct:Ct}(C:bG cd X ct){scope:Scope}:∀{xs:List Str}{caps:List Nat},slots ct.N xs=some caps->(∀x∈xs,scope.names.lookup x=some .free/\(ct.S.lookup x=some .cell\/ct.S.lookup x=some .free))->bD X scope xs (caps.map some)
 | [],caps,h,_=>by cases h;exact True.intro
 | x::xs,caps,h,k=>by
  unfold slots at h;cases e:slot ct.N x with
  | none=>rw[e]at h;cases h
  | some i0 =>
   rw[e]at h;cases e2:slots ct.N xs with
   | none=>simp[e2]at h
   | some js =>
    simp[e2]at h;subst h;obtain⟨k1,k2⟩:=k x BN;exact⟨⟨by rw[C.N];exact cy e,k1,by rw[C.S];exact k2⟩,jr C e2 fun y hy=>k y (BF _ hy)⟩
theorem rC{t:TV}{x:Bd×List PV×Bool}(h:t.ob=some x):t≠.un:=fun e=>by subst e;cases h
theorem aX.block{K:W.Frag}{O:List Addr}{σ:L2.St}{H:Hp}{caps:List Nat}{x:PV}{n:Bool}{u:V}(R:aX K Hi O τ σ H)(nd:caps.Nodup)(r:Rp K Hi n x (aN H O) u) :
  aX K Hi O (.frz x n::caps.map fun i=>τ.getD i .un) (some u::bM (caps.map some) σ) H:=by
 have hτ:∀(j:Nat)(v:TV),(caps.map fun i=>τ.getD i .un)[j]? =some v->v≠.un->∃i,caps[j]? =some i/\τ[i]? =some v:=fun j v e hv=>by
  rw[Bi]at e;cases ec:caps[j]? with
  | none=>rw[ec]at e;cases e
  | some i =>
   rw[ec]at e;refine⟨i,rfl,?_⟩;have e:τ.getD i .un=v:=Bc e;rw[Bj]at e;cases et:τ[i]? with
   | none=>rw[et]at e;exact absurd e.symm hv
   | some w=>rw[et]at e;exact B4 some e
 have hσ:∀(j i:Nat),caps[j]? =some i->(bM (caps.map some) σ)[j]? =some ((σ[i]?).join):=fun j i e=>by
  unfold bM;rw[Bi,Bi,e];rfl
 refine⟨R.same,R.own,fun j v m e=> ?_,fun j t bd ys m e ht=> ?_,fun a b t t' x1 y1 l e1 ht e2 ht' h1 h2=> ?_⟩
 ·cases j with
  | zero =>
   simp at e;obtain⟨rfl,rfl⟩:=e;exact⟨u,by simp,r⟩
  | succ j =>
   obtain⟨i,h1,h2⟩:=hτ j _ (by simpa using e) (by simp);obtain⟨w,h3,h4⟩:=R.frz i v m h2;exact⟨w,by rw[CP,hσ j i h1,h3];rfl,h4⟩
 ·cases j with
  | zero =>
   simp at e;subst e;cases ht
  | succ j =>
   obtain⟨i,h1,h2⟩:=hτ j _ (by simpa using e) (rC ht);obtain⟨l,us,o,h3,h4⟩:=R.obs i t bd ys m h2 ht;exact⟨l,us,o,by rw[CP,hσ j i h1,h3];rfl,h4⟩
 ·cases a with
  | zero =>
   simp at e1;subst e1;cases ht
  | succ a =>
   cases b with
   | zero =>
    simp at e2;subst e2;cases ht'
   | succ b =>
    obtain⟨i,c1,c2⟩:=hτ a _ (by simpa using e1) (rC ht);obtain⟨j,d1,d2⟩:=hτ b _ (by simpa using e2) (rC ht');rw[CP,hσ a i c1]at h1;rw[CP,hσ b j d1]at h2;obtain⟨b1,xs1,n1⟩:=x1;obtain⟨b2,xs2,n2⟩:=y1;obtain⟨l1,us1,o1,g1,_⟩:=R.obs i t b1 xs1 n1 c2 ht;obtain⟨l2,us2,o2,g2,_⟩:=R.obs j t' b2 xs2 n2 d2 ht';rw[g1]at h1;rw[g2]at h2;cases h1;cases h2;have e:=R.dst i j t t' _ _ l c2 ht d2 ht' g1 g2;subst e
    congr 1
    have ha:a<caps.length:=(BM.mp c1).1;have hb:b<caps.length:=(BM.mp d1).1;have e1:caps[a]=i:=by rw[BU ha]at c1;exact Bc c1
    have e2:caps[b]=i:=by rw[BU hb]at d1;exact Bc d1
    exact(List.getElem_inj nd).mp (e1.trans e2.symm)
theorem gf{N:List Str}:∀{xs:List Str}{caps:List Nat},slots N xs=some caps->xs.Nodup->caps.Nodup
 | [],caps,h,_=>by cases h;exact List.nodup_nil
 | x::xs,caps,h,nd=>by
  unfold slots at h;cases e:slot N x with
  | none=>rw[e]at h;cases h
  | some i0 =>
   rw[e]at h;cases e2:slots N xs with
   | none=>simp[e2]at h
   | some js =>
    simp[e2]at h;subst h;refine CG.mpr ⟨fun hm=> ?_,gf e2 (CG.mp nd).2⟩;obtain⟨k,hk⟩:=List.mem_iff_getElem?.mp hm;obtain⟨y,h1,h2⟩:=jt e2 hk;rw[cy e]at h2;cases h2;exact(CG.mp nd).1 (Bo h1)
theorem aX.hide{K:W.Frag}{O:List Addr}{σ:L2.St}{H H' :Hp}{D:Addr}{us:List V}(R:aX K Hi O τ σ H)(s:aA H H')(h0:H D=none)(h1:H' D=some (.lst us)):aX K Hi (D::O) τ σ H' :=by
 have hs:aA (aN H O) (aN H' (D::O)):=fun b o e=>by
  unfold aN at e ⊢
  split at e
  ·cases e
  ·rename_i nb
   have ne:b≠D:=aJ e h0;rw[BI (by simp[ne,nb])];exact s b o e
 refine⟨R.same.trans s,fun l hl=> ?_,fun i v n e=> ?_,fun i t b xs n e ht=> ?_,R.dst⟩
 ·rcases BP.mp hl with rfl|hl
  ·exact⟨R.same.free h0,_,h1,.lst⟩
  ·obtain⟨q,vs,e,mo⟩:=R.own l hl
   exact⟨q,vs,s _ _ e,mo⟩
 ·obtain⟨u,g1,g2⟩:=R.frz i v n e
  exact⟨u,g1,g2.mono hs⟩
 ·obtain⟨l,vs,o,g1,g2,g3,g4,g5⟩:=R.obs i t b xs n e ht
  exact⟨l,vs,o,g1,BF _ g2,s _ _ g3,g4,g5.mono hs⟩
theorem io{e:Expr}{env:Env}(h:bP e=false):∀x,foldedSetIterable e env x=pure x:=by
 intro x;cases e with
 | Set a b c=>cases h
 | _=>rfl
noncomputable def Aj(cd:Nat->List PV->Option PV)(ifs:A4)(elt:IE)(n:Bool)(aO:En):PV->Option (Option (PV×Bool)):=fun x=>(jJ cd ifs (.frz x (n||imm x)::aO)).bind fun b=>if b then(aL cd elt (.frz x (n||imm x)::aO)).bind fun r=>r.keep.map some else some none
theorem xl{cd:Nat->List PV->Option PV}{ctb:Ct}{Nn:List Str}{pre:List (Option Nat)}{tg iter elt:Expr}{ifs:List Expr}{ifs' :A4}{elt' :IE}{scope:Scope}{xs:List PV}{n b:Bool}{VS:List PV}{NN:Bool}{CF:PV->Option (Option (PV×Bool))}
  (pJ:k6 X Hi τ tg iter xs n b) (hz:xs.length<=LN) (hblk:∀(Cf:Addr)(s2:Shared)(H2:Hp)(fp:List Addr)(cl:List (Str×Addr)),bG cd (am X Nn scope Cf s2 H2 fp cl) ctb)
  (hifs:∀(X' :Cx)(τ' :En)(k:Bool),bG cd X' ctb->jJ cd ifs' τ' =some k->∃tt,tG X' ifs tt/\∀(O:List Addr)(σ:L2.St)(H:Hp)(Q:Bool->Hp->Prop),aX X'.K Hi O τ' σ H->(∀H',aA H H' ->Q k H')->tt σ H Q)
  (helt:∀(X' :Cx)(τ' :En)(r:RV),bG cd X' ctb->aL cd elt' τ' =some r->aG X' Hi τ' elt r)
  (step:∀(O:List Addr)(σ:L2.St)(D:Addr)(x:PV)(r0:Option (PV×Bool))(u:V)(G' :Hp)(Cf:Addr)(s2:Shared)(H2:Hp)(fp:List Addr)(cl:List (Str×Addr)),CF x=some r0->aX X.K Hi (D::O) τ σ G' ->Rp X.K Hi n x (aN G' (D::O)) u ->
   ∃(τx:En)(σx:L2.St)(g:TG),((jJ cd ifs' τx).bind fun t=>if t then(aL cd elt' τx).bind fun r=>r.keep.map some else some none)=some r0/\aX X.K Hi (D::O) τx σx G' /\PG (am X Nn scope Cf s2 H2 fp cl) tg g /\
    ∀K:L2.St->Hp->Prop,K σx G' ->g u (bM pre σ) G' fun σ2 H3=>(σ2.length=Nn.length/\∀(j:Nat)(v:V),(bM pre σ)[j]? =some (some v)->σ2[j]? =some (some v))/\K σ2 H3)
  (hrun:cU CF xs=some (VS,NN)) (O:List Addr) (σ:L2.St) (H:Hp) (Q:VK) (R:aX X.K Hi O τ σ H) (q:∀u H',aA H H' ->aR X.K Hi O H H' (.own VS NN) u->Q u H'):yw X Nn pre scope tg ifs elt (fun σ H R=>WI X tg iter σ H R) σ H Q:=by
 refine pJ O σ H _ R fun J H1 s1 En=> ?_;intro D hD;have ok:∀(G:Hp)(ys:List V),aA H1 G->G D=some (.lst ys)->(if b=true then OkB H1 else wO (aN H1 O)) G (D::O):=by
  intro G ys sG gD;have ls:mP (D::O) G:=fun l hl=>by
   rcases BP.mp hl with rfl|hl
   ·exact⟨_,gD,.lst⟩
   ·obtain⟨us,e,mo⟩:=(R.own l hl).2
    exact⟨us,sG _ _ (s1 _ _ e),mo⟩
  cases b with
  | true=>exact⟨ls,sG⟩
  | false =>
   refine⟨ls,fun c o e=> ?_⟩;unfold aN at e ⊢
   split at e
   ·cases e
   ·rename_i nb
    have ne:c≠D:=aJ e hD;rw[BI (by simp[ne,nb])];exact sG c o e
 refine⟨fun i m ys G=>m=xs.length-i/\i<=xs.length/\aA H1 G/\G D=some (.lst ys)/\ys.length<=i/\∃dn ws mm,cU CF (xs.drop i)=some (ws,mm)/\VS=dn++ws/\(NN=true->mm=true)/\aF X.K Hi NN dn (aN G (D::O)) ys,
  ⟨xs.length,by simp,Be _,aP hD _,aD,BD _,[],VS,NN,hrun,rfl,id,.nil⟩,?_⟩
 rintro i m ys G ⟨rfl,hi,sG,gD,hyl,dn,ws,mm,hc1,hv,hn,hr⟩
 by_cases hlt:i<xs.length
 ·refine .inr ⟨En.go G (D::O) i (ok G ys sG gD) hlt,fun u G' y=> ?_⟩
  obtain⟨sGG,x,hx,rx⟩:=En.yld G (D::O) i u G' (ok G ys sG gD) hlt y;intro Cf s2 H2 fp cl;have C' :=hblk Cf s2 H2 fp cl;have hd:xs.drop i=x::xs.drop (i+1):=by
   rw[List.drop_eq_getElem_cons hlt];rw[BU hlt]at hx;rw[Bc hx]
  rw[hd]at hc1;unfold cU at hc1;cases hf:CF x with
  | none=>rw[hf]at hc1;cases hc1
  | some r0 =>
   rw[hf]at hc1;cases hcr:cU CF (xs.drop (i+1))with
   | none=>rw[hcr]at hc1;cases hc1
   | some w =>
    obtain⟨ws',mm'⟩:=w;rw[hcr]at hc1;have gD' :G' D=some (.lst ys):=sGG _ _ gD;obtain⟨τx,σx,g,hf,RB,pg,hg⟩:=step O σ D x r0 u G' Cf s2 H2 fp cl hf (R.hide (s1.trans (sG.trans sGG)) (s1.free hD) gD') rx;cases hco:jJ cd ifs' τx with
    | none=>rw[hco]at hf;cases hf
    | some k =>
     rw[hco]at hf;obtain⟨tt,ptt,qtt⟩:=hifs _ _ _ C' hco;refine⟨g,tt,_,pg,ptt,aS,hg _ ?_⟩;refine qtt (D::O) _ G' _ RB fun G4 s4=> ?_;cases k with
     | false =>
      rw[BI BC];have hf:(some none:Option (Option (PV×Bool)))=some r0:=hf;cases hf;cases hc1;exact⟨xs.length-(i+1),by omega,rfl,hlt,sG.trans (sGG.trans s4),s4 _ _ gD',by omega,dn,ws,mm,hcr,hv,hn,hr.mono (aM (sGG.trans s4))⟩
     | true =>
      rw[BK rfl];have hf:((aL cd elt' τx).bind fun r=>r.keep.map some)=some r0:=hf;cases he:aL cd elt' τx with
      | none=>rw[he]at hf;cases hf
      | some r =>
       rw[he]at hf;have hf:r.keep.map some=some r0:=hf;cases hk:r.keep with
       | none=>rw[hk]at hf;cases hf
       | some vn =>
        obtain⟨v,nv⟩:=vn;rw[hk]at hf;cases hf;have hc1:some (v::ws',nv&&mm')=some (ws,mm):=hc1;cases hc1;refine helt _ _ _ C' he (D::O) _ G4 _ (RB.ext s4) fun w G5 s5 r5=> ?_;have kp:=r5.keep (RB.ext s4) s5 hk;have gD5:=s5 _ _ (s4 _ _ gD');have sT:=sG.trans (sGG.trans (s4.trans s5));have hz' :xs.length<=16777216:=hz;refine⟨gD5,by rw[cT];omega,xs.length-(i+1),by omega,rfl,hlt,sT.upd hD,aD,by rw[BL];simp;omega,dn++[v],ws',mm',hcr,by rw[hv];simp,fun z=> ?_,?_⟩
        ·have:=hn z
         rw[BB]at this;exact this.2
        ·have e:aN (L2.upd G5 D (.lst (ys++[w]))) (D::O)=aN G5 (D::O):=by
          funext c
          unfold aN
          split
          ·rfl
          ·rename_i nc
           exact aE fun z=>nc (z▸BN)
         rw[e];refine(hr.mono (aM (sGG.trans (s4.trans s5)))).app (.cons (kp.low fun z=> ?_) .nil);have:=hn z;rw[BB]at this;exact this.1
 ·have e:i=xs.length:=by omega
  subst e;rw[List.drop_length]at hc1;cases hc1;refine .inl ⟨En.stop G (D::O) (ok G ys sG gD),q _ _ (s1.trans sG) ?_⟩;refine⟨D,ys,rfl,s1.free hD,gD,?_⟩;rw[hv,Bz];refine hr.mono fun c o e=> ?_;unfold aN at e;unfold aN del
  split at e
  ·cases e
  ·rename_i nc
   have n1:c≠D:=fun z=>nc (z▸BN);have n2:c∉O:=fun z=>nc (BF _ z);rw[BI n2,BI n1];exact e
theorem ux{cd:Nat->List PV->Option PV}{ct:Ct}(C:bG cd X ct){t:Str}{tp:Pos}{iter elt:Expr}{ifs:List Expr}{ifs' :A4}{elt' :IE}{scope:Scope}{caps:List Nat}{xs:List PV}{n b:Bool}{VS:List PV}{NN:Bool}
  (h:oV ct t scope=true) (hc:slots ct.N (frees scope)=some caps) (hset:bP iter=false) (pJ:k6 X Hi τ (.Name t tp) iter xs n b) (hz:xs.length<=LN)
  (hifs:∀(X' :Cx)(τ' :En)(k:Bool),bG cd X' (blk ct t scope)->jJ cd ifs' τ' =some k->∃tt,tG X' ifs tt/\∀(O:List Addr)(σ:L2.St)(H:Hp)(Q:Bool->Hp->Prop),aX X'.K Hi O τ' σ H->(∀H',aA H H' ->Q k H')->tt σ H Q)
  (helt:∀(X' :Cx)(τ' :En)(r:RV),bG cd X' (blk ct t scope)->aL cd elt' τ' =some r->aG X' Hi τ' elt r)
  (hrun:cU (Aj cd ifs' elt' n (caps.map fun i=>τ.getD i .un)) xs=some (VS,NN)):bD X scope (t::frees scope) (none::caps.map some)/\eo X.env.scope scope=true /\
  ∀(O:List Addr)(σ:L2.St)(H:Hp)(Q:VK),aX X.K Hi O τ σ H->(∀u H',aA H H' ->aR X.K Hi O H H' (.own VS NN) u->Q u H')->yw X (t::frees scope) (none::caps.map some) scope (.Name t tp) ifs elt (fun σ H R=>WI X (.Name t tp) iter σ H R) σ H Q:=by
 obtain⟨h1,h2,h3,h4,h5,h6,h7⟩:=gN h;have hmem:∀x∈frees scope,(x,NameKind.free)∈scope.names:=fun x hx=>BY (h7 x hx);have hsrc:bD X scope (t::frees scope) (none::caps.map some):=jr C hc fun x hx=>⟨h7 x hx,h4 _ (hmem x hx) rfl⟩;have hfr:eo X.env.scope scope=true:=by
  unfold eo;rw[Bl];intro y hy;rw[C.S]
  by_cases e:y.2=.free
  ·rcases h4 y hy e with z|z<;>simp[e,z]
  ·simp[e]
 have hlen:=iB hc;refine⟨hsrc,hfr,xl pJ hz (C.blk h) hifs helt (fun O σ D x r0 u G' Cf s2 H2 fp cl hf R rx=> ?_) hrun⟩;exact⟨_,some u::bM (caps.map some) σ,nS 0,hf,R.block (gf hc (CG.mp h5).2) rx.up,dq h5 rfl (tq h6) (wj h6),fun K k=>⟨sm (by simp[hlen]),k⟩⟩
end
theorem bind_some{α β:Type}{o:Option α}{f:α->Option β}{b:β}(h:o.bind f=some b):∃a,o=some a/\f a=some b:=by
 cases o with
 | none=>cases h
 | some a=>exact⟨a,rfl,h⟩
theorem map_some{α β:Type}{o:Option α}{f:α->β}{b:β}(h:o.map f=some b):∃a,o=some a/\f a=b:=by
 cases o with
 | none=>cases h
 | some a=>exact⟨a,rfl,Bc h⟩
structure fD(cd:Nat->List PV->Option PV)(n:Nat):Prop where
 e:∀(X:Cx)(ct:Ct)(Hi:Hp)(τ:En)(e:Expr)(r:RV),bG cd X ct->aL cd (aa n ct e) τ=some r->aG X Hi τ e r
 cm:∀(X:Cx)(ct:Ct)(Hi:Hp)(τ:En)(a:Expr)(ops:List CmpOp)(cs:List Expr)(pos:Pos)(r:RV),bG cd X ct->aL cd (aa n ct (.Compare a ops cs pos)) τ=some r->∃t,r=sc (.bl t)/\cW X Hi τ (.Compare a ops cs pos) t
 es:∀(X:Cx)(ct:Ct)(Hi:Hp)(τ:En)(es:List Expr)(rs:List RV),bG cd X ct->cL cd (dg n ct es) τ=some rs->jU X Hi τ es rs/\(∀a∈es,isStar a=false)/\es.length=rs.length/\∀(i:Nat)(a:Expr)(r:RV),es[i]? =some a->rs[i]? =some r->aG X Hi τ a r
 o:∀(X:Cx)(ct:Ct)(Hi:Hp)(τ:En)(e:Option Expr)(o:Option RV)(i:Option Int),bG cd X ct->yN cd (vw n ct e) τ=some o->oa o=some i->o4 X Hi τ e i
 c:∀(X:Cx)(ct:Ct)(Hi:Hp)(τ:En)(e:Expr)(b:Bool),bG cd X ct->dC cd (iU n ct e) τ=some b->cW X Hi τ e b
 call:∀(X:Cx)(ct:Ct)(Hi:Hp)(τ:En)(x:Str)(es:List Expr)(p pos:Pos)(r:RV),bG cd X ct->aL cd (eG n ct x es) τ=some r->aG X Hi τ (.Call (.Name x p) es [] pos) r
 mth:∀(X:Cx)(ct:Ct)(Hi:Hp)(τ:En)(o:Expr)(m:Str)(es:List Expr)(ap cp:Pos)(r:RV),bG cd X ct->(ap.endLine==cp.line)=true->aL cd (hV n ct o m es) τ=some r->aG X Hi τ (.Call (.Attribute o m ap) es [] cp) r
 t:∀(X:Cx)(ct:Ct)(Hi:Hp)(τ:En)(tp:Bool)(e tg:Expr)(xs:List PV)(k b:Bool),bG cd X ct->(tp=true->∃ts kk p,tg=.Tuple ts kk p)->lv cd (tf n ct tp e) τ=some (xs,k,b)->k6 X Hi τ tg e xs k b/\bP e=false
section
variable{cd:Nat->List PV->Option PV}
theorem eT{v:PV}{b:Bool}(h:fA v=some b):v=.bl b:=by
 cases v<;>first|(cases h;done)|(cases h;rfl)
theorem rT{v:PV}{b:Int}(h:xz v=some b):v=.int b:=by
 cases v<;>first|(cases h;done)|(cases h;rfl)
theorem lU{α:Type}{l:List α}(h:l.length=1):∃a,l=[a]:=by
 cases l with
 | nil=>cases h
 | cons a l =>
  cases l with
  | nil=>exact⟨a,rfl⟩
  | cons b l=>cases h
theorem pV{α:Type}{l:List α}(h:l.length=2):∃a b,l=[a,b]:=by
 cases l with
 | nil=>cases h
 | cons a l =>
  obtain⟨b,rfl⟩:=lU (show l.length=1 from Nat.succ.inj h);exact⟨a,b,rfl⟩
theorem aK{τ:En}{r:RV}(h:aL cd .never τ=some r){P:Prop}:P:=by simp[bL,bN,bK,cB,bj,bu,bo,b9,bt,cC,bZ,bn,bg,bh,bc,cD,cE,ba,bW,bi,cA]at h
theorem kf{X:Cx}{Hi:Hp}{τ:En}{op:BoolOp}{pos:Pos}{f:Expr->IE}(hf:∀e r,aL cd (f e) τ=some r->aG X Hi τ e r):∀{vs:List Expr}{r:RV},aL cd (gX op (vs.map f)) τ=some r->aG X Hi τ (.BoolOp op vs pos) r
 | [],r,h=>aK h
 | [a],r,h=>xX (hf a r h)
 | a::b::aO,r,h=>by
  have ih:= @kf X Hi τ op pos f hf (b::aO);cases op with
  | And =>
   have h:aL cd (.and (f a) (gX .And ((b::aO).map f))) τ=some r:=h;simp only[bL,bN,bK,cB,bj,bu,bo,b9,bt,cC,bZ,bn,bg,bh,bc,cD,cE,ba,bW,bi,cA]at h;obtain⟨x,hx,h⟩:=bind_some h;have hx:=hf a x hx;obtain⟨t,ht,h⟩:=bind_some h;have e:=eT ht;cases t with
   | true=>exact Ap hx e (ih h)
   | false=>cases h;exact Aq hx e
  | Or =>
   have h:aL cd (.or (f a) (gX .Or ((b::aO).map f))) τ=some r:=h;simp only[bL,bN,bK,cB,bj,bu,bo,b9,bt,cC,bZ,bn,bg,bh,bc,cD,cE,ba,bW,bi,cA]at h;obtain⟨x,hx,h⟩:=bind_some h;have hx:=hf a x hx;obtain⟨t,ht,h⟩:=bind_some h;have e:=eT ht;cases t with
   | true=>cases h;exact or_t hx e
   | false=>exact or_f hx e (ih h)
theorem kd{X:Cx}{Hi:Hp}{τ:En}{op:BoolOp}{pos:Pos}{f:Expr->IC}(hf:∀e b,dC cd (f e) τ=some b->cW X Hi τ e b):∀{vs:List Expr}{b:Bool},dC cd (gW op (vs.map f)) τ=some b->hU X Hi τ (.BoolOp op vs pos) b
 | [],r,h=>by
  have h:dC cd (.val .never) τ=some r:=h;simp[pP,tQ,tV,tP,bL,bN,bK,cB,bj,bu,bo,b9,bt,cC,bZ,bn,bg,bh,bc,cD,cE,ba,bW,bi,cA]at h
 | [a],r,h=>xW (hf a r h)
 | a::b::aO,r,h=>by
  have ih:= @kd X Hi τ op pos f hf (b::aO);cases op with
  | And =>
   have h:dC cd (.and (f a) (gW .And ((b::aO).map f))) τ=some r:=h;simp only[pP,tQ,tV,tP]at h;obtain⟨x,hx,h⟩:=bind_some h;have hx:=hf a x hx;cases x with
   | true=>exact sx hx (ih h)
   | false=>cases h;exact sx hx rfl
  | Or =>
   have h:dC cd (.or (f a) (gW .Or ((b::aO).map f))) τ=some r:=h;simp only[pP,tQ,tV,tP]at h;obtain⟨x,hx,h⟩:=bind_some h;have hx:=hf a x hx;cases x with
   | true=>cases h;exact wD hx rfl
   | false=>exact wD hx (ih h)
theorem nG{X:Cx}{Hi:Hp}{τ:En}{f:Expr->IE}(hf:∀e r,aL cd (f e) τ=some r->aG X Hi τ e r):∀{es:List Expr}{rs:List RV},cL cd (oR (es.map fun e=>if isStar e then .never else f e)) τ=some rs->jU X Hi τ es rs/\(∀a∈es,isStar a=false)/\es.length=rs.length/\∀(i:Nat)(a:Expr)(r:RV),es[i]? =some a->rs[i]? =some r->aG X Hi τ a r
 | [],rs,h=>by
  have h:some []=some rs:=by simpa [oR,pH,k9]using h
  cases h;exact⟨yg,fun a ha=>(by cases ha),rfl,fun i a r e=>(by simp at e)⟩
 | e::es,rs,h=>by
  have h:cL cd (.cons (if isStar e then .never else f e) (oR (es.map fun e=>if isStar e then .never else f e))) τ=some rs:=h;simp only[pH,k9]at h;obtain⟨x,hx,h⟩:=bind_some h;obtain⟨ys,hy,h⟩:=map_some h;subst h;obtain⟨i1,i2,i3,i4⟩:=nG hf hy;cases hs:isStar e with
  | true=>rw[hs]at hx;exact aK hx
  | false =>
   rw[hs]at hx;refine⟨vi (hf e x hx) hs i1,fun a ha=> ?_,by rw[BS,BS,i3],fun i a r e1 e2=> ?_⟩
   ·rcases BP.mp ha with rfl|ha
    ·exact hs
    ·exact i2 a ha
   ·cases i with
    | zero =>
     simp at e1 e2;subst e1 e2;exact hf _ _ hx
    | succ i=>exact i4 i a r (by simpa using e1) (by simpa using e2)
theorem Ak{n:Nat}(IH:fD cd n){X:Cx}{ct:Ct}{Hi:Hp}{τ:En}{a:Expr}{ops:List CmpOp}{cs:List Expr}{pos:Pos}{r:RV}(C:bG cd X ct)(h:aL cd (aa (n+1) ct (.Compare a ops cs pos)) τ=some r) :
  ∃t,r=sc (.bl t)/\aG X Hi τ (.Compare a ops cs pos) r/\cW X Hi τ (.Compare a ops cs pos) t:=by
 refine CD fun no=> ?_;simp only[jl,jg,jb,jk,jY,jh,jj,je,jd,jZ,jf,ja,ji,jc]at h
 split at h
 ·rename_i op b
  split at h
  ·exact aK h
  ·rename_i hs
   have hs:=Bx.mpr hs;simp only[bL,bN,bK,cB,bj,bu,bo,b9,bt,cC,bZ,bn,bg,bh,bc,cD,cE,ba,bW,bi,cA]at h;obtain⟨x,hx,h⟩:=bind_some h;obtain⟨y,hy,h⟩:=bind_some h;obtain⟨t,ht,h⟩:=map_some h;subst h;have ha:=IH.e X ct Hi τ a x C hx;have hb:=IH.e X ct Hi τ b y C hy;exact no<|⟨t,rfl,yW C.un ha hb hs ht,yV C.un ha hb hs ht⟩
 ·rename_i op op' b c
  split at h
  ·exact aK h
  ·rename_i hs
   rw[CH,not_or]at hs;obtain⟨hs,ho⟩:=hs;have ho:mz op' =true:=by simpa using ho
   have hs:=Bx.mpr hs;simp only[bL,bN,bK,cB,bj,bu,bo,b9,bt,cC,bZ,bn,bg,bh,bc,cD,cE,ba,bW,bi,cA]at h;obtain⟨x,hx,h⟩:=bind_some h;obtain⟨y,hy,h⟩:=bind_some h;obtain⟨t,ht,h⟩:=bind_some h;have ha:=IH.e X ct Hi τ a x C hx;have hb:=IH.e X ct Hi τ b y C hy;cases t with
   | true =>
    rw[BK rfl]at h;obtain⟨z,hz,h⟩:=bind_some h;obtain⟨t2,ht2,h⟩:=map_some h;subst h;have hc:=IH.e X ct Hi τ c z C hz;obtain⟨g1,g2⟩:=sf C.un (pos:=pos) ha hb hs ht (t2:=t2) (o2:=op') (by rw[BK rfl];exact⟨z,hc,ht2⟩);exact no<|⟨t2,rfl,g1,g2⟩
   | false =>
    rw[BI BC]at h;cases h;obtain⟨g1,g2⟩:=sf C.un (pos:=pos) ha hb hs ht (t2:=false) (o2:=op') (by rw[BI BC];exact⟨rfl,lJ op' ho⟩);exact no<|⟨false,rfl,g1,g2⟩
 ·exact aK h
theorem Ao{n:Nat}(IH:fD cd n){X:Cx}{ct:Ct}{Hi:Hp}{τ:En}{x:Str}{es:List Expr}{p pos:Pos}{r:RV}(C:bG cd X ct)(h:aL cd (eG (n+1) ct x es) τ=some r):aG X Hi τ (.Call (.Name x p) es [] pos) r:=by
 refine CD fun no=> ?_;simp only[z1g,z1h]at h
 split at h
 ·exact aK h
 rename_i ho;have ho:=Bx.mpr ho
 split at h
 ·rename_i hg
  have hg:ct.S.lookup x=some .globalImplicit:=by simpa using hg
  cases hf:ct.F.lookup x with
  | some f =>
   rw[hf]at h;dsimp only at h;cases es with
   | nil=>exact aK h
   | cons e es =>
    simp only[bL,bN,bK,cB,bj,bu,bo,b9,bt,cC,bZ,bn,bg,bh,bc,cD,cE,ba,bW,bi,cA]at h;obtain⟨rs,hrs,h⟩:=bind_some h;obtain⟨v,hv,h⟩:=map_some h;subst h;obtain⟨i1,i2,i3,i4⟩:=IH.es X ct Hi τ (e::es) rs C hrs;exact no<|call_ok C ho hg hf i2 i1 hv
  | none =>
   rw[hf]at h;dsimp only at h
   split at h
   ·rename_i hb
    have hown:own ct x=true:=by
     unfold own;rw[hb,hg];rfl
    have plain:∀{es:List Expr}{r:RV},aL cd (match oy x es.length with|some f=>IE.bf f (dg n ct es)|none=>.never) τ=some r->aG X Hi τ (.Call (.Name x p) es [] pos) r:=by
     intro es r h;cases hbf:oy x es.length with
     | none=>rw[hbf]at h;exact aK h
     | some f =>
      rw[hbf]at h;simp only[bL,bN,bK,cB,bj,bu,bo,b9,bt,cC,bZ,bn,bg,bh,bc,cD,cE,ba,bW,bi,cA]at h;obtain⟨rs,hrs,h⟩:=bind_some h;obtain⟨i1,i2,i3,i4⟩:=IH.es X ct Hi τ es rs C hrs;have one:∀a,es=[a]->aG X Hi τ (.Call (.Name x p) es [] pos) r:=by
       intro a ea;subst ea;obtain⟨ra,rfl⟩:=lU (show rs.length=1 from i3.symm);exact yd C hown hbf (i2 a (by simp)) (i4 0 a ra rfl rfl) h
      have two:∀a b,es=[a,b]->aG X Hi τ (.Call (.Name x p) es [] pos) r:=by
       intro a b ea;subst ea;obtain⟨ra,rb,rfl⟩:=pV (show rs.length=2 from i3.symm);exact yc C hown hbf (i2 a (by simp)) (i2 b (by simp)) (i4 0 a ra rfl rfl) (i4 1 b rb rfl rfl) h
      have hk:es.length=1\/es.length=2:=by
       rcases eW hbf with⟨_,z,_⟩|⟨_,z,_⟩|⟨_,z,_⟩|⟨_,z,_⟩|⟨_,z,_⟩|⟨_,z,_⟩|⟨_,z,_⟩|⟨_,z,_⟩|⟨_,z,_⟩|⟨_,z,_⟩|⟨_,z,_⟩<;>simp[z]
      rcases hk with hk|hk
      ·obtain⟨a,ha⟩:=lU hk
       exact one a ha
      ·obtain⟨a,b,ha⟩:=pV hk
       exact two a b ha
    split at h
    ·rename_i hi
     have hi:x=("isinstance":Str):=BW hi;subst hi
     split at h
     ·rename_i a t tpos
      split at h
      ·rename_i ty hty
       split at h
       ·exact aK h
       ·rename_i hs
        have hs:=Bx.mpr hs
        split at h
        ·rename_i hot
         simp only[bL,bN,bK,cB,bj,bu,bo,b9,bt,cC,bZ,bn,bg,bh,bc,cD,cE,ba,bW,bi,cA,pH,k9]at h;obtain⟨rs,hrs,h⟩:=bind_some h;obtain⟨ra,hra,h2⟩:=bind_some hrs;cases h2;have h:(bO ty ra.val).map (fun b=>sc (.bl b))=some r:=h;obtain⟨b,hb2,h⟩:=map_some h;subst h;exact no<|isin_ok C hown hty hot hs (IH.e X ct Hi τ a ra C hra) hb2
        ·exact aK h
      ·exact aK h
     ·exact aK h
    ·exact no<|plain h
   ·exact aK h
 ·exact aK h
theorem mthE{n:Nat}(IH:fD cd n){X:Cx}{ct:Ct}{Hi:Hp}{τ:En}{o:Expr}{m:Str}{es:List Expr}{ap cp:Pos}{r:RV}(C:bG cd X ct)(hl:(ap.endLine==cp.line)=true)(h:aL cd (hV (n+1) ct o m es) τ=some r):aG X Hi τ (.Call (.Attribute o m ap) es [] cp) r:=by
 refine CD fun no=> ?_;simp only[z22,z23]at h
 split at h
 ·rename_i hp
  split at h
  ·rename_i a
   split at h
   ·exact aK h
   ·rename_i hs
    have hs:=Bx.mpr hs
    split at h
    ·rename_i hm
     have hm:=BW hm;subst hm;simp only[bL,bN,bK,cB,bj,bu,bo,b9,bt,cC,bZ,bn,bg,bh,bc,cD,cE,ba,bW,bi,cA,pH,k9]at h;obtain⟨ro,hro,h⟩:=bind_some h;obtain⟨rs,hrs,h⟩:=bind_some h;obtain⟨ra,hra,h2⟩:=bind_some hrs;cases h2;exact no<|join_ok hp hl hs (IH.e X ct Hi τ o ro C hro) (IH.e X ct Hi τ a ra C hra) h
    ·exact aK h
  ·exact aK h
 ·exact aK h
theorem AT{n:Nat}(IH:fD cd n){X:Cx}{ct:Ct}{Hi:Hp}{τ:En}{tp:Bool}{e tg:Expr}{xs:List PV}{k b:Bool}(C:bG cd X ct)(ht:tp=true->∃ts kk p,tg=.Tuple ts kk p)(h:lv cd (tf (n+1) ct tp e) τ=some (xs,k,b)):k6 X Hi τ tg e xs k b/\bP e=false:=by
 simp only[z2l,z2m]at h
 split at h
 ·simp[vp,wT,wS,yv]at h
 rename_i hset;have hset:=Bx.mpr hset;refine⟨?_,hset⟩;have seq:lv cd (.seq (aa n ct e)) τ=some (xs,k,b)->k6 X Hi τ tg e xs k b:=by
  intro h;simp only[vp,wT,wS,yv]at h;obtain⟨r,hr,h⟩:=bind_some h;exact ww (IH.e X ct Hi τ e r C hr) h
 have nv:∀{P:Prop},lv cd .never τ=some (xs,k,b)->P:=by
  intro P h;simp[vp,wT,wS,yv]at h
 split at h
 ·rename_i x es hc
  obtain⟨p,pos,rfl⟩:∃p pos,e=.Call (.Name x p) es [] pos:=by
   unfold jO at hc
   split at hc
   ·cases hc;exact⟨_,_,rfl⟩
   ·cases hc
  split at h
  ·rename_i hx
   have hx:=BW hx;subst hx
   split at h
   ·rename_i ho
    simp only[vp,wT,wS,yv]at h;obtain⟨rs,hrs,h⟩:=bind_some h;obtain⟨ys,hy,h⟩:=map_some h;cases h;obtain⟨i1,i2,i3,i4⟩:=IH.es X ct Hi τ es rs C hrs;exact xA C ho i2 i1 i3 hy
   ·exact nv h
  ·split at h
   ·rename_i hx
    have hx:=BW hx;subst hx
    split at h
    ·rename_i a b'
     split at h
     ·exact nv h
     ·rename_i hc
      simp only[CH,not_or,Bool.not_eq_true,Ck]at hc;obtain⟨⟨⟨c1,c2⟩,c3⟩,c4⟩:=hc;obtain⟨ts,kk,tpos,rfl⟩:=ht (by simpa using c3);simp only[vp,wT,wS,yv]at h;obtain⟨ra,hra,h⟩:=bind_some h;obtain⟨rb,hrb,h⟩:=bind_some h;obtain⟨w,hw,h⟩:=map_some h;cases h;exact wR C (by simpa using c4) c1 c2 (IH.e X ct Hi τ _ ra C hra) (IH.e X ct Hi τ _ rb C hrb) hw
    ·exact nv h
   ·split at h
    ·exact nv h
    ·exact seq h
 ·exact seq h
theorem lcE{n:Nat}(IH:fD cd n){X:Cx}{ct:Ct}{Hi:Hp}{τ:En}{elt:Expr}{gs:List Comprehension}{scope:Scope}{pos:Pos}{r:RV}(C:bG cd X ct)(h:aL cd (aa (n+1) ct (.ListComp elt gs scope pos)) τ=some r) :
  ∃tg iter ifs N' src,gs=[⟨tg,iter,ifs,0⟩]/\bD X scope N' src/\scope.kind=.function/\(∀y∈scope.names,y.2=.cell->scope.names.lookup y.1=some .cell)/\(∀y∈scope.names,y.2=.local->scope.names.lookup y.1=some .local)/\eo X.env.scope scope=true/\bP iter=false /\
   ∀(O:List Addr)(σ:L2.St)(H:Hp)(Q:VK),aX X.K Hi O τ σ H->(∀u H',aA H H' ->aR X.K Hi O H H' r u->Q u H')->yw X N' src scope tg ifs elt (fun σ H R=>WI X tg iter σ H R) σ H Q:=by
 refine CD fun no=> ?_;simp only[jl,jg,jb,jk,jY,jh,jj,je,jd,jZ,jf,ja,ji,jc]at h
 split at h
 ·rename_i t tp iter ifs
  split at h
  ·rename_i hlc
   cases hc:slots ct.N (frees scope)with
   | none=>rw[hc]at h;exact aK h
   | some caps =>
    rw[hc]at h;simp only[bL,bN,bK,cB,bj,bu,bo,b9,bt,cC,bZ,bn,bg,bh,bc,cD,cE,ba,bW,bi,cA]at h;obtain⟨w,hw,h⟩:=bind_some h;obtain⟨xs,n',b⟩:=w;dsimp only at h
    split at h
    ·rename_i hz
     obtain⟨w2,hw2,h⟩:=map_some h;obtain⟨VS,NN⟩:=w2;subst h;obtain⟨pJ,hset⟩:=IH.t X ct Hi τ false iter (.Name t tp) xs n' b C (fun z=>by cases z) hw;obtain⟨g1,g2,g3,g4,g5,g6,g7⟩:=gN hlc;obtain⟨q1,q2,q3⟩:=ux (elt:=elt) (ifs:=ifs) C hlc hc hset pJ hz (fun X' τ' k C' hk=>by
      split at hk
      ·simp only[zI,z0q]at hk
       cases hk;exact⟨_,qT,fun O σ H Q R q=>q H (aA.refl _)⟩
      ·rename_i c
       simp only[zI,z0q]at hk;exact⟨_,qS gq,fun O σ H Q R q=>IH.c X' _ Hi τ' _ k C' hk O σ H Q R q⟩
      ·simp[zI,z0q,pP,tQ,tV,tP,bL,bN,bK,cB,bj,bu,bo,b9,bt,cC,bZ,bn,bg,bh,bc,cD,cE,ba,bW,bi,cA]at hk) (fun X' τ' r' C' hr' =>IH.e X' _ Hi τ' elt r' C' hr') hw2
     exact no<|⟨.Name t tp,iter,ifs,_,_,rfl,q1,g1,g2,g3,q2,hset,q3⟩
    ·cases h
  ·exact aK h
 ·exact aK h
theorem expE{n:Nat}(IH:fD cd n){X:Cx}{ct:Ct}{Hi:Hp}{τ:En}{e:Expr}{r:RV}(C:bG cd X ct)(h:aL cd (aa (n+1) ct e) τ=some r):aG X Hi τ e r:=by
 cases e with
 | Constant c k pos=>simp only[jl,jg,jb,jk,jY,jh,jj,je,jd,jZ,jf,ja,ji,jc]at h;exact sS h
 | Name x pos=>simp only[jl,jg,jb,jk,jY,jh,jj,je,jd,jZ,jf,ja,ji,jc]at h;exact uo C h
 | BinOp a op b pos =>
  simp only[jl,jg,jb,jk,jY,jh,jj,je,jd,jZ,jf,ja,ji,jc,bL,bN,bK,cB,bj,bu,bo,b9,bt,cC,bZ,bn,bg,bh,bc,cD,cE,ba,bW,bi,cA]at h;obtain⟨x,hx,h⟩:=bind_some h;obtain⟨y,hy,h⟩:=bind_some h;exact so (IH.e X ct Hi τ a x C hx) (IH.e X ct Hi τ b y C hy) h
 | UnaryOp op a pos =>
  simp only[jl,jg,jb,jk,jY,jh,jj,je,jd,jZ,jf,ja,ji,jc]at h;cases op with
  | USub =>
   simp only[bL,bN,bK,cB,bj,bu,bo,b9,bt,cC,bZ,bn,bg,bh,bc,cD,cE,ba,bW,bi,cA]at h;obtain⟨x,hx,h⟩:=bind_some h;obtain⟨i,hi,h⟩:=map_some h;subst h;exact xf (IH.e X ct Hi τ a x C hx) (rT hi)
  | Not =>
   simp only[bL,bN,bK,cB,bj,bu,bo,b9,bt,cC,bZ,bn,bg,bh,bc,cD,cE,ba,bW,bi,cA]at h;obtain⟨x,hx,h⟩:=bind_some h;obtain⟨i,hi,h⟩:=map_some h;subst h;exact xZ (IH.e X ct Hi τ a x C hx) (eT hi)
  | _=>exact aK h
 | Compare a ops cs pos =>
  obtain⟨t,_,h1,_⟩:=Ak IH (Hi:=Hi) C h;exact h1
 | BoolOp op vs pos =>
  simp only[jl,jg,jb,jk,jY,jh,jj,je,jd,jZ,jf,ja,ji,jc]at h
  split at h
  ·exact aK h
  ·exact kf (fun e r h=>IH.e X ct Hi τ e r C h) h
 | IfExp c a b pos =>
  simp only[jl,jg,jb,jk,jY,jh,jj,je,jd,jZ,jf,ja,ji,jc,bL,bN,bK,cB,bj,bu,bo,b9,bt,cC,bZ,bn,bg,bh,bc,cD,cE,ba,bW,bi,cA]at h;obtain⟨t,ht,h⟩:=bind_some h;refine xx (IH.c X ct Hi τ c t C ht) ?_;cases t with
  | true=>exact IH.e X ct Hi τ a r C h
  | false=>exact IH.e X ct Hi τ b r C h
 | List es pos =>
  simp only[jl,jg,jb,jk,jY,jh,jj,je,jd,jZ,jf,ja,ji,jc,bL,bN,bK,cB,bj,bu,bo,b9,bt,cC,bZ,bn,bg,bh,bc,cD,cE,ba,bW,bi,cA]at h;obtain⟨rs,hrs,h⟩:=bind_some h;obtain⟨w,hw,h⟩:=bind_some h;obtain⟨vs,n'⟩:=w;exact xi (IH.es X ct Hi τ es rs C hrs).1 hw h
 | Tuple es k pos =>
  simp only[jl,jg,jb,jk,jY,jh,jj,je,jd,jZ,jf,ja,ji,jc,bL,bN,bK,cB,bj,bu,bo,b9,bt,cC,bZ,bn,bg,bh,bc,cD,cE,ba,bW,bi,cA]at h;obtain⟨rs,hrs,h⟩:=bind_some h;obtain⟨w,hw,h⟩:=bind_some h;obtain⟨vs,n'⟩:=w;exact wX (IH.es X ct Hi τ es rs C hrs).1 hw h
 | Dict ks vs pos =>
  simp only[jl,jg,jb,jk,jY,jh,jj,je,jd,jZ,jf,ja,ji,jc]at h
  split at h
  ·simp only[bL,bN,bK,cB,bj,bu,bo,b9,bt,cC,bZ,bn,bg,bh,bc,cD,cE,ba,bW,bi,cA]at h
   cases h;exact vN
  ·rename_i c _ _ v
   split at h
   ·simp only[bL,bN,bK,cB,bj,bu,bo,b9,bt,cC,bZ,bn,bg,bh,bc,cD,cE,ba,bW,bi,cA]at h
    obtain⟨x,hx,h⟩:=bind_some h;obtain⟨w,hw,h⟩:=bind_some h;obtain⟨v',n'⟩:=w;dsimp only at h
    split at h
    ·rename_i hi
     cases h;exact nY bw (fun _ _ _ q=>q) (IH.e X ct Hi τ v x C hx) hw hi
    ·cases h
   ·simp only[bL,bN,bK,cB,bj,bu,bo,b9,bt,cC,bZ,bn,bg,bh,bc,cD,cE,ba,bW,bi,cA]at h
    obtain⟨x,hx,h⟩:=bind_some h;obtain⟨w,hw,h⟩:=bind_some h;obtain⟨v',n'⟩:=w;dsimp only at h
    split at h
    ·rename_i hi
     cases h;exact nY lQ (fun _ _ _ q=>q) (IH.e X ct Hi τ v x C hx) hw hi
    ·cases h
   ·exact aK h
  ·exact aK h
 | Subscript a i pos =>
  simp only[jl,jg,jb,jk,jY,jh,jj,je,jd,jZ,jf,ja,ji,jc]at h
  split at h
  ·rename_i lo hi st sp
   cases st with
   | none =>
    simp only[bL,bN,bK,cB,bj,bu,bo,b9,bt,cC,bZ,bn,bg,bh,bc,cD,cE,ba,bW,bi,cA]at h;obtain⟨x,hx,h⟩:=bind_some h;obtain⟨l,hl,h⟩:=bind_some h;obtain⟨u,hu,h⟩:=bind_some h;obtain⟨l',hl',h⟩:=bind_some h;obtain⟨u',hu',h⟩:=bind_some h;exact qA (IH.e X ct Hi τ a x C hx) (IH.o X ct Hi τ lo l l' C hl hl') (IH.o X ct Hi τ hi u u' C hu hu') h
   | some st=>exact aK h
  ·rename_i hns
   simp only[bL,bN,bK,cB,bj,bu,bo,b9,bt,cC,bZ,bn,bg,bh,bc,cD,cE,ba,bW,bi,cA]at h;obtain⟨x,hx,h⟩:=bind_some h;obtain⟨y,hy,h⟩:=bind_some h;refine rV C.un ?_ (IH.e X ct Hi τ a x C hx) (IH.e X ct Hi τ i y C hy) h;cases i<;>first|rfl|(exfalso;exact hns _ _ _ _ rfl)
 | Call f es ks cp =>
  simp only[jl,jg,jb,jk,jY,jh,jj,je,jd,jZ,jf,ja,ji,jc]at h;cases ks with
  | nil =>
   dsimp only at h;cases f with
   | Name x p=>exact IH.call X ct Hi τ x es p cp r C h
   | Attribute o m ap =>
    dsimp only at h
    split at h
    ·rename_i hl
     exact IH.mth X ct Hi τ o m es ap cp r C hl h
    ·exact aK h
   | _=>exact aK h
  | cons k ks=>exact aK h
 | ListComp elt gs scope pos =>
  obtain⟨tg,iter,ifs,N',src,rfl,h1,h2,h3,h4,h5,h6,h7⟩:=lcE IH (Hi:=Hi) C h;intro O σ H Q R q;exact we (AC C.calm xK h1 h2 h3 h4 h5 (io h6)) (h7 O σ H Q R q)
 | _=>(try simp only[jl,jg,jb,jk,jY,jh,jj,je,jd,jZ,jf,ja,ji,jc]at h);exact aK h
theorem tstE{n:Nat}(IH:fD cd n){X:Cx}{ct:Ct}{Hi:Hp}{τ:En}{e:Expr}{b:Bool}(C:bG cd X ct)(h:dC cd (iU (n+1) ct e) τ=some b):cW X Hi τ e b:=by
 have plain:∀{e:Expr},dC cd (.val (aa n ct e)) τ=some b->(∀whole,isTrue e X.env whole=(do let v<-whole;standAt e.pos;holding [v] (truthy v)))->cW X Hi τ e b:=by
  intro e h hp;simp only[pP,tQ,tV,tP]at h;obtain⟨x,hx,h⟩:=bind_some h;exact wU (IH.e X ct Hi τ e x C hx) h hp
 cases e with
 | UnaryOp op a p =>
  simp only[zH,zE,zG,zF]at h;cases op with
  | Not =>
   simp only[pP,tQ,tV,tP]at h;obtain⟨t,ht,h⟩:=map_some h;subst h;exact xY (IH.c X ct Hi τ a t C ht)
  | _=>exact plain h fun _=>rfl
 | BoolOp op vs p =>
  simp only[zH,zE,zG,zF]at h;exact(kd (fun e b h=>IH.c X ct Hi τ e b C h) h).tc
 | IfExp c a b' p =>
  simp[zH,zE,zG,zF,pP,tQ,tV,tP,bL,bN,bK,cB,bj,bu,bo,b9,bt,cC,bZ,bn,bg,bh,bc,cD,cE,ba,bW,bi,cA]at h
 | Compare a ops cs pos =>
  have h:dC cd (.val (aa n ct (.Compare a ops cs pos))) τ=some _:=h;simp only[pP,tQ,tV,tP]at h;obtain⟨x,hx,h⟩:=bind_some h;obtain⟨t,rfl,ht⟩:=IH.cm X ct Hi τ a ops cs pos x C hx;cases h;exact ht
 | _=>(try simp only[zH,zE,zG,zF]at h);exact plain h fun _=>rfl
theorem dO:∀n:Nat,fD cd n
 | 0=>by
  refine⟨fun X ct Hi τ e r C h=> ?_,fun X ct Hi τ a ops cs pos r C h=> ?_,fun X ct Hi τ es rs C h=> ?_,fun X ct Hi τ e o i C h=> ?_,fun X ct Hi τ e b C h=> ?_,fun X ct Hi τ x es p pos r C h=> ?_,fun X ct Hi τ o m es ap cp r C hl h=> ?_,fun X ct Hi τ tp e tg xs k b C ht h=> ?_⟩
  ·simp[jl,jg,jb,jk,jY,jh,jj,je,jd,jZ,jf,ja,ji,jc,bL,bN,bK,cB,bj,bu,bo,b9,bt,cC,bZ,bn,bg,bh,bc,cD,cE,ba,bW,bi,cA]at h
  ·simp[jl,jg,jb,jk,jY,jh,jj,je,jd,jZ,jf,ja,ji,jc,bL,bN,bK,cB,bj,bu,bo,b9,bt,cC,bZ,bn,bg,bh,bc,cD,cE,ba,bW,bi,cA]at h
  ·simp[z20,z21,pH,k9,bL,bN,bK,cB,bj,bu,bo,b9,bt,cC,bZ,bn,bg,bh,bc,cD,cE,ba,bW,bi,cA]at h
  ·simp[z24,z25,z26,vt,vq,bL,bN,bK,cB,bj,bu,bo,b9,bt,cC,bZ,bn,bg,bh,bc,cD,cE,ba,bW,bi,cA]at h
  ·simp[zH,zE,zG,zF,pP,tQ,tV,tP,bL,bN,bK,cB,bj,bu,bo,b9,bt,cC,bZ,bn,bg,bh,bc,cD,cE,ba,bW,bi,cA]at h
  ·simp[z1g,z1h,bL,bN,bK,cB,bj,bu,bo,b9,bt,cC,bZ,bn,bg,bh,bc,cD,cE,ba,bW,bi,cA]at h
  ·simp[z22,z23,bL,bN,bK,cB,bj,bu,bo,b9,bt,cC,bZ,bn,bg,bh,bc,cD,cE,ba,bW,bi,cA]at h
  ·simp[z2l,z2m,vp,wT,wS,yv]at h
 | n+1=>by
  have IH:=dO n;refine⟨fun X ct Hi τ e r C h=>expE IH C h,fun X ct Hi τ a ops cs pos r C h=> ?_,fun X ct Hi τ es rs C h=> ?_,fun X ct Hi τ e o i C h hi=> ?_,fun X ct Hi τ e b C h=>tstE IH C h,fun X ct Hi τ x es p pos r C h=>Ao IH C h,fun X ct Hi τ o m es ap cp r C hl h=>mthE IH C hl h,fun X ct Hi τ tp e tg xs k b C ht h=>AT IH C ht h⟩
  ·obtain⟨t,h1,_,h2⟩:=Ak IH (Hi:=Hi) C h
   exact⟨t,h1,h2⟩
  ·simp only[z20,z21]at h
   exact nG (fun e r h=>IH.e X ct Hi τ e r C h) h
  ·cases e with
   | none =>
    simp only[z24,z25,z26,vt,vq]at h;cases h;cases hi;exact True.intro
   | some e =>
    simp only[z24,z25,z26,vt,vq]at h;obtain⟨r,hr,h⟩:=map_some h;subst h;simp only[oa]at hi
    split at hi
    ·rename_i j ej
     cases hi;exact⟨r,IH.e X ct Hi τ e r C hr,ej⟩
    ·cases hi
end
end IR
namespace L2
open PySem PySem.Spec PyProof.Rows
section
variable{X:Cx}{pins:List (Addr×Obj)}{σ:St}{H:Hp}{s:Shared}
theorem qM{xn:Str}{ix:Nat}{xpos apos:Pos}{elt target iter:Expr}{ifs:List Expr}{scope:Scope}{pos:Pos}{N' :List Str}{src:List (Option Nat)}{wi:TI}(hc:X.calm=true)(hi:PI X target iter wi)(hsrc:bD X scope N' src)
  (hkind:scope.kind=.function) (hcell:∀y∈scope.names,y.2=.cell->scope.names.lookup y.1=some .cell) (hnames:∀y∈scope.names,y.2=.local->scope.names.lookup y.1=some .local)
  (hfr:eo X.env.scope scope=true)
  (hs:∀x,foldedSetIterable iter X.env x=pure x) (hN:X.N.Nodup) (hix:X.N[ix]? =some xn) (hxl:Loc X.env.scope xn) (hf:X.fn xn=true\/X.env.scope.names.lookup xn=some .local)
  (hsw:swapsWith (.ListComp elt [⟨target,iter,ifs,0⟩] scope pos) (some (.Name xn xpos)) apos.line X.env=pure true) :
  PS X (.Assign [.Name xn xpos] (.ListComp elt [⟨target,iter,ifs,0⟩] scope pos) apos) (zd (yw X N' src scope target ifs elt wi) (nS ix)):=by
 intro pins s σ H D0 I h;rw[exec_Assign_Name_used xn xpos _ apos hsw];refine A8 (wpAny_standAt (A8 ?_));show wpAny (model X.prog X.w) X.A (comprehension (.ListComp elt [⟨target,iter,ifs,0⟩] scope pos) scope X.env _ (newList []) false _ (some (assign (.Name xn xpos) X.env)) >>= fun _=>pure ()) _ _ _;refine A8 (ae (Q:=fun _ s' =>SP X pins D0 .next s') ?_ fun _ s9 h9=>BG (BG h9));refine nJ (use:=some (assign (.Name xn xpos) X.env)) hc hi hsrc hkind hcell hnames hfr hs I h fun C a' s2 s4 H2 H3 fp cl m I2 f2 below hCle I4 hn qn _=> ?_;have u4:Un (lC X.stack) fp H2 H3 s2.heap s4.heap:=I4.base;have IX:Inv X pins σ H3 s4:=I2.call' (s' :=s4) (ch:=fp) I4.os u4 I4.hok I4.bare fun b hb=>⟨(f2 b hb).2.2.2.1,(f2 b hb).2.1,(f2 b hb).2.2.2.2.1,(f2 b hb).2.2.2.2.2⟩;have hC3:H3 C=none:=I4.free;refine wpAny_assign_Name (hZ IX hN hix hxl (v:=.ref a') rfl (fun s5 I5 ⟨a,sb,ha⟩=> ?_) hf);have ane:C≠a:=by
  rcases ha with rfl|ha
  ·exact(below _ I2.lt).symm
  ·obtain⟨v,qc⟩:=I2.cell _ _ ha
   exact(below _ qc.lt).symm
 refine⟨m,?_,fun h' hs' => ?_⟩
 ·obtain⟨ob,es,ep,ho,rr⟩:=hn
  exact⟨ob,es,ep,(sb.2 _ ane).trans ho,rr⟩
 ·refine⟨_,H3,I5.turned (t' :=s5.toks) (it:=C) (fun b o ne e=>(hs'.2 b ne).trans e) hC3 (below _ I2.lt).symm (.inr (Ba I2.sz hCle)) (fun x c e=> ?_) (fun p hp=> ?_),qn⟩
  ·obtain⟨v,qc⟩:=I2.cell x c e
   exact below _ qc.lt
  ·exact below _ (BE (I2.pin p hp).1)
end
end L2
namespace IR
open PySem PySem.Spec PyProof.Rows L2
section
variable{X:Cx}{Hi:Hp}{τ:En}{cd:Nat->List PV->Option PV}{ct:Ct}
noncomputable abbrev WS(X:Cx)(st:Stmt)(D:cX)(σ:L2.St)(H:Hp):Prop:=∀(pins:List (Addr×Obj))(s:Shared),Inv X pins σ H s->wpAny (model X.prog X.w) X.A (exec st X.env) (SP X pins D) X.xe s
noncomputable abbrev As(X:Cx)(st:List Stmt)(D:cX)(σ:L2.St)(H:Hp):Prop:=∀(pins:List (Addr×Obj))(s:Shared),Inv X pins σ H s->wpAny (model X.prog X.w) X.A (execs st X.env) (SP X pins D) X.xe s
theorem j5{st:Stmt}:PS X st (fun D σ H=>WS X st D σ H):=fun pins s σ H D I h=>h pins s I
theorem bF{st:List Stmt}:jW X st (fun D σ H=>As X st D σ H):=fun pins s σ H D I h=>h pins s I
theorem ws{st:Stmt}{t:TS}{σ:L2.St}{H:Hp}{D:cX}(h:PS X st t)(q:t D σ H):WS X st D σ H:=fun pins s I=>h pins s σ H D I q
theorem mT{st:List Stmt}{t:TS}{σ:L2.St}{H:Hp}{D:cX}(h:jW X st t)(q:t D σ H):As X st D σ H:=fun pins s I=>h pins s σ H D I q
variable(X Hi)in
noncomputable def nl(O:List Addr)(H:Hp)(τ' :En)(P:L2.St->Hp->Prop):Prop:=∀(σ' :L2.St)(H' :Hp)(O' :List Addr),aX X.K Hi O' τ' σ' H' ->σ'.length=X.N.length->aA (aN H O) (aN H' O')->P σ' H'
variable(X Hi)in
noncomputable def tE(fl:Fl)(O:List Addr)(H:Hp)(D:cX):Prop:=match fl with
 | .nx τ' =>nl X Hi O H τ' D.nx
 | .bk τ' =>nl X Hi O H τ' D.bk
 | .ct τ' =>nl X Hi O H τ' D.ct
 | .rt v=>∀u H',aA Hi H' ->Rp X.K Hi true v H' u->D.rt u H'
variable(X Hi τ)in
noncomputable def jS(st:Stmt)(fl:Fl):Prop:=∀(O:List Addr)(σ:L2.St)(H:Hp)(D:cX),aX X.K Hi O τ σ H->σ.length=X.N.length->tE X Hi fl O H D->WS X st D σ H
variable(X Hi τ)in
noncomputable def o0(st:List Stmt)(fl:Fl):Prop:=∀(O:List Addr)(σ:L2.St)(H:Hp)(D:cX),aX X.K Hi O τ σ H->σ.length=X.N.length->tE X Hi fl O H D->As X st D σ H
theorem nl.from{O O' :List Addr}{H H' :Hp}{τ' :En}{P:L2.St->Hp->Prop}(h:nl X Hi O H τ' P)(s:aA (aN H O) (aN H' O')):nl X Hi O' H' τ' P:=fun σ2 H2 O2 R hl s2=>h σ2 H2 O2 R hl (s.trans s2)
theorem tE.from{O O' :List Addr}{H H' :Hp}{fl:Fl}{D:cX}(h:tE X Hi fl O H D)(s:aA (aN H O) (aN H' O')):tE X Hi fl O' H' D:=by
 cases fl with
 | nx τ' =>exact nl.from (show nl X Hi O H τ' D.nx from h) s
 | bk τ' =>exact nl.from (show nl X Hi O H τ' D.bk from h) s
 | ct τ' =>exact nl.from (show nl X Hi O H τ' D.ct from h) s
 | rt v=>exact h
theorem i5(C:bG cd X ct){x:Str}{i:Nat}(h:loc ct x=some i):X.N[i]? =some x/\L2.Loc X.env.scope x/\nD x=false/\zK ct.S x=true:=by
 unfold loc at h
 split at h
 ·rename_i c
  rw[BB]at c;refine⟨by rw[C.N];exact cy h,?_,by simpa using c.2,?_⟩
  ·unfold L2.Loc
   rw[C.S]
   simpa using c.1
  ·unfold zK
   have:=c.1;simp only[CH]at this ⊢;exact .inl this
 ·cases h
theorem jH{cap:List Nat}{O:List Addr}{σ:L2.St}{H:Hp}(R:aX X.K Hi O τ σ H):∃O',aX X.K Hi O' (aw cap τ) σ H/\aA (aN H O) (aN H O'):=by
 obtain⟨O',R',h⟩:=R.freezes (cap:=cap);exact⟨O',R',nP h⟩
theorem xF{o:Bool}{i:Nat}{r:RV}{τ' :En}{O:List Addr}{σ:L2.St}{H H' :Hp}{u:V}(R:aX X.K Hi O τ σ H)(s:aA H H')(hi:i<σ.length)(ok:aR X.K Hi O H H' r u)(h:fF o i r τ=some τ') :
  ∃O',aX X.K Hi O' τ' (σ.set i (some u)) H' /\aA (aN H O) (aN H' O'):=by
 unfold fF at h
 split at h
 ·rename_i xs n
  cases h;obtain⟨p,us,rfl,h0,h1,r1⟩:=ok;have hs:aA (aN (del H' p) O) (aN H' (p::O)):=fun b o e=>by
   unfold aN del at e;unfold aN
   split at e
   ·cases e
   ·rename_i nb
    split at e
    ·cases e
    ·rename_i np
     rw[BI (by simp[np,nb])];exact e
  refine⟨p::O,R.setO hi s h0 h1 (r1.mono hs),fun b o e=> ?_⟩;unfold aN at e ⊢
  split at e
  ·cases e
  ·rename_i nb
   have ne:b≠p:=aJ e h0;rw[BI (by simp[ne,nb])];exact s b o e
 ·rename_i b xs n
  cases h;obtain⟨p,us,o,rfl,h0,h1,ha,r1⟩:=ok;have hs:aA (aN (del H' p) O) (aN H' (p::O)):=fun b o e=>by
   unfold aN del at e;unfold aN
   split at e
   ·cases e
   ·rename_i nb
    split at e
    ·cases e
    ·rename_i np
     rw[BI (by simp[np,nb])];exact e
  refine⟨p::O,R.setB rfl hi s h0 h1 ha (r1.mono hs),fun b o e=> ?_⟩;unfold aN at e ⊢
  split at e
  ·cases e
  ·rename_i nb
   have ne:b≠p:=aJ e h0;rw[BI (by simp[ne,nb])];exact s b o e
 ·obtain⟨w,hw,h⟩:=map_some h
  obtain⟨v,n⟩:=w;subst h;exact⟨O,(R.ext s).setF hi (ok.keep R s hw),aM s⟩
theorem xb{e:Expr}{x:Str}{p:Pos}{l:Nat}{env:Env}(h:rS e=false\/env.kindOf x≠some .local):swapsWith e (some (.Name x p)) l env=pure false:=by
 rcases h with h|h
 ·cases e<;>first|rfl|cases h
 ·have hk:(env.kindOf x==some NameKind.local)=false:=by simpa using h
  cases e<;>first|rfl|(show(pure (_&&(env.kindOf x==some NameKind.local)&&_&&_):Sem Bool)=pure false;rw[hk,Bool.and_false,DE,DE])
theorem yf(C:bG cd X ct)(hfn:X.fn=fun _=>true){n:Nat}{x:Str}{i:Nat}{o:Bool}{cap:List Nat}{e:Expr}{xp pos:Pos}{r:RV}{τ' :En}(hx:loc ct x=some i)(hr:aL cd (aa n ct e) (aw cap τ)=some r)(hp:fF o i r (aw cap τ)=some τ') :
  jS X Hi τ (.Assign [.Name x xp] e pos) (.nx τ'):=by
 intro O σ H D R hl q;obtain⟨h1,h2,h3,h4⟩:=i5 C hx;obtain⟨O1,R1,s1⟩:=jH (cap:=cap) R;have he:=(dO n).e X ct Hi (aw cap τ) e r C hr;have hi:i<σ.length:=by rw[hl];exact(BM.mp h1).1
 have hN:X.N.Nodup:=by rw[C.N];exact C.nd
 have fin:∀u H',aA H H' ->aR X.K Hi O1 H H' r u->D.nx (σ.set i (some u)) H' :=fun u H' s ok=>by
  obtain⟨O2,R2,s2⟩:=xF R1 s hi ok hp;exact q _ _ O2 R2 (by rw[Cy];exact hl) (s1.trans s2)
 by_cases hc:rS e=false\/X.env.kindOf x≠some .local
 ·refine ws (dS hN h1 h2 aS (xb hc) (.inl (by rw[hfn]))) ?_
  exact he O1 σ H _ R1 fin
 ·rw[not_or]at hc
  obtain⟨c1,c2⟩:=hc;have c2:X.env.kindOf x=some .local:=Classical.not_not.mp c2;cases e with
  | ListComp elt gs scope lp =>
   cases n with
   | zero=>simp[jl,jg,jb,jk,jY,jh,jj,je,jd,jZ,jf,ja,ji,jc,bL,bN,bK,cB,bj,bu,bo,b9,bt,cC,bZ,bn,bg,bh,bc,cD,cE,ba,bW,bi,cA]at hr
   | succ n =>
    obtain⟨tg,iter,ifs,N',src,rfl,g1,g2,g3,g4,g5,g6,g7⟩:=lcE (dO n) (Hi:=Hi) C hr;obtain⟨b,hb⟩:∃b,swapsWith (.ListComp elt [⟨tg,iter,ifs,0⟩] scope lp) (some (.Name x xp)) pos.line X.env=pure b:=⟨_,rfl⟩;cases b with
    | true=>exact ws (qM C.calm xK g1 g2 g3 g4 g5 (io g6) hN h1 h2 (.inl (by rw[hfn])) hb) (g7 O1 σ H _ R1 fin)
    | false=>exact ws (dS hN h1 h2 aS hb (.inl (by rw[hfn]))) (he O1 σ H _ R1 fin)
  | SetComp a b c d=>exact aK (by cases n<;>exact hr)
  | DictComp a b c d e=>exact aK (by cases n<;>exact hr)
  | _=>exact absurd rfl c1
theorem xB(C:bG cd X ct){n:Nat}{cap:List Nat}{e:Expr}{pos:Pos}{r:RV}{v:PV}(hr:aL cd (aa n ct e) (aw cap τ)=some r)(hk:r.keep=some (v,true)):jS X Hi τ (.Return (some e) pos) (.rt v):=by
 intro O σ H D R hl q;obtain⟨O1,R1,s1⟩:=jH (cap:=cap) R;refine ws (ig aS) ?_;exact(dO n).e X ct Hi _ e r C hr O1 σ H _ R1 fun u H' s ok=>q u H' (R.same.trans s) ((ok.keep R1 s hk).mono aV)
theorem uG{pos:Pos}:jS X Hi τ (.Return none pos) (.rt .non):=by
 intro O σ H D R hl q;exact ws uO (q _ _ R.same (Rp.non.mpr rfl))
theorem yB{c:Expr}{a b:List Stmt}{pos:Pos}{t:Bool}{fl:Fl}(hc:cW X Hi τ c t)(h:o0 X Hi τ (if t=true then a else b) fl):jS X Hi τ (.If c a b pos) fl:=by
 intro O σ H D R hl q;refine ws (qN gq bF bF) ?_;refine hc O σ H _ R fun H1 s1=> ?_;cases t with
 | true=>exact kN ((show o0 X Hi τ a fl from h) O σ H1 _ (R.ext s1) hl (q.from (aM s1)))
 | false=>exact kO ((show o0 X Hi τ b fl from h) O σ H1 _ (R.ext s1) hl (q.from (aM s1)))
theorem nI(C:bG cd X ct)(hfn:X.fn=fun _=>true):∀{es:List Expr}{is:List Nat},locs ct es=some is->∃t,Aw X es t/\(assignEach es X.env).length=is.length/\(assignEach es X.env).findIdx? (·.1)=none /\
  ∀(O:List Addr)(τ τ' :En)(σ:L2.St)(H:Hp)(n:Bool)(xs:List PV)(us:List V)(Q:L2.St->Hp->Prop),aX X.K Hi O τ σ H->σ.length=X.N.length->aF X.K Hi n xs (aN H O) us->bv n is xs τ=some τ' ->
   (∀σ',aX X.K Hi O τ' σ' H->σ'.length=X.N.length->Q σ' H)->t us σ H Q
 | [],is,h=>by
  cases h;refine⟨_,mn,rfl,rfl,fun O τ τ' σ H n xs us Q R hl r e q=> ?_⟩;cases xs with
  | nil =>
   unfold aF at r;subst r;cases e;exact⟨rfl,q σ R hl⟩
  | cons x xs=>cases e
 | .Name x p::es,is,h=>by
  have h:(loc ct x).bind (fun i=>(locs ct es).map (i::·))=some is:=h;obtain⟨i,hi,h⟩:=bind_some h;obtain⟨js,hj,h⟩:=map_some h;subst h;obtain⟨h1,h2,h3,h4⟩:=i5 C hi;obtain⟨t,pt,hlen,hf,k⟩:=nI C hfn hj;refine⟨_,gI (dq (by rw[C.N];exact C.nd) h1 h2 (.inl (by rw[hfn]))) pt rfl,?_,?_,fun O τ τ' σ H n xs us Q R hl r e q=> ?_⟩
  ·show(assignEach es X.env).length+1=_
   rw[hlen];rfl
  ·show List.findIdx? (·.1) ((false,assign (.Name x p) X.env)::assignEach es X.env)=none
   rw[List.findIdx?_cons,hf];rfl
  ·cases xs with
   | nil=>cases e
   | cons y ys =>
    unfold aF at r;obtain⟨u,vs,rfl,a,b⟩:=r;have hi' :i<σ.length:=by rw[hl];exact(BM.mp h1).1
    exact⟨u,vs,rfl,k O _ τ' _ H n ys vs Q (R.setF hi' a.up) (by rw[Cy];exact hl) b e q⟩
 | .BoolOp .. ::_,_,h=>by cases h
 | .NamedExpr .. ::_,_,h=>by cases h
 | .BinOp .. ::_,_,h=>by cases h
 | .UnaryOp .. ::_,_,h=>by cases h
 | .Lambda .. ::_,_,h=>by cases h
 | .IfExp .. ::_,_,h=>by cases h
 | .Dict .. ::_,_,h=>by cases h
 | .Set .. ::_,_,h=>by cases h
 | .ListComp .. ::_,_,h=>by cases h
 | .SetComp .. ::_,_,h=>by cases h
 | .DictComp .. ::_,_,h=>by cases h
 | .GeneratorExp .. ::_,_,h=>by cases h
 | .Await .. ::_,_,h=>by cases h
 | .Yield .. ::_,_,h=>by cases h
 | .YieldFrom .. ::_,_,h=>by cases h
 | .Compare .. ::_,_,h=>by cases h
 | .Call .. ::_,_,h=>by cases h
 | .FormattedValue .. ::_,_,h=>by cases h
 | .JoinedStr .. ::_,_,h=>by cases h
 | .Constant .. ::_,_,h=>by cases h
 | .Attribute .. ::_,_,h=>by cases h
 | .Subscript .. ::_,_,h=>by cases h
 | .Starred .. ::_,_,h=>by cases h
 | .List .. ::_,_,h=>by cases h
 | .Tuple .. ::_,_,h=>by cases h
 | .Slice .. ::_,_,h=>by cases h
theorem zO(C:bG cd X ct)(hfn:X.fn=fun _=>true){tg:Expr}{is:List Nat}{one:Bool}(h:pZ ct tg=some (is,one)):(one=false->∃ts k p,tg=.Tuple ts k p)/\∃g,PG X tg g /\
  ∀(O:List Addr)(τ τ' :En)(σ:L2.St)(H:Hp)(n:Bool)(x:PV)(u:V)(Q:L2.St->Hp->Prop),aX X.K Hi O τ σ H->σ.length=X.N.length->Rp X.K Hi n x (aN H O) u->ib is one n x τ=some τ' ->
   (∀σ',aX X.K Hi O τ' σ' H->σ'.length=X.N.length->Q σ' H)->g u σ H Q:=by
 cases tg with
 | Name x p =>
  obtain⟨i,hi,h⟩:=map_some (show(loc ct x).map (fun i=>([i],true))=some (is,one)from h);cases h;obtain⟨h1,h2,h3,h4⟩:=i5 C hi;refine⟨fun z=>(by cases z),_,dq (by rw[C.N];exact C.nd) h1 h2 (.inl (by rw[hfn])),fun O τ τ' σ H n x u Q R hl r e q=> ?_⟩;have e:some (τ.set i (.frz x (n||imm x)))=some τ' :=e;cases e;have hi' :i<σ.length:=by rw[hl];exact(BM.mp h1).1
  exact q _ (R.setF hi' r.up) (by rw[Cy];exact hl)
 | Tuple es k p =>
  obtain⟨js,hj,h⟩:=map_some (show(locs ct es).map (fun is=>(is,false))=some (is,one)from h);cases h;obtain⟨t,pt,hlen,hf,kk⟩:=nI (Hi:=Hi) C hfn hj;refine⟨fun _=>⟨_,_,_,rfl⟩,_,qY C.calm pt hlen hf,fun O τ τ' σ H n x u Q R hl r e q=> ?_⟩;cases x with
  | tup xs =>
   obtain⟨a,us,rfl,l,r2⟩:=Rp.tup.mp r;have e:bv n is xs τ=some τ' :=e;have hz:∀{is:List Nat}{xs:List PV}{τ τ' :En},bv n is xs τ=some τ' ->xs.length=is.length:=by
    intro is
    induction is with
    | nil=>intro xs τ τ' e;cases xs with
     | nil=>rfl
     | cons _ _=>cases e
    | cons i is ih=>intro xs τ τ' e;cases xs with
     | nil=>cases e
     | cons x xs=>rw[BS,BS,ih (show bv n is xs _=some τ' from e)]
   exact⟨a,us,rfl,(aV (O:=O)).tup l,by rw[<- r2.len];exact hz e,kk O τ τ' σ H n xs us Q R hl r2 e q⟩
  | _=>cases e
 | _=>cases h
theorem yI(C:bG cd X ct)(hfn:X.fn=fun _=>true){tg it:Expr}{is:List Nat}{one:Bool}{cap:List Nat}{n:Nat}{body:List Stmt}{pos:Pos}{xs:List PV}{k:Bool}{bd:En->Option Fl}{fl:Fl}(ht:pZ ct tg=some (is,one))
  (hi:lv cd (tf n ct (!one) it) (aw cap τ)=some (xs,k,false)) (hb:∀τ fl,bd τ=some fl->o0 X Hi τ body fl) (h:gU (ib is one k) bd xs (aw cap τ)=some fl):jS X Hi τ (.For tg it body [] pos) fl:=by
 intro O σ H D R hl q;obtain⟨O1,R1,s1⟩:=jH (cap:=cap) R;obtain⟨htp,g,pg,kg⟩:=zO (Hi:=Hi) C hfn ht;obtain⟨pJ,hset⟩:=(dO n).t X ct Hi (aw cap τ) (!one) it tg xs k false C (fun z=>htp (by simpa using z)) hi;refine ws (qO C.xe C.calm xK pg bF (io hset)) ?_;refine pJ O1 σ H _ R1 fun J H1 sJ En=> ?_;rw[BI BC]at En;have s2:aA (aN H O) (aN H1 O1):=s1.trans (aM sJ);refine⟨fun i m σ' G=>m=xs.length-i/\i<=xs.length/\∃(P:List Addr)(υ:IR.En),aX X.K Hi P υ σ' G/\σ'.length=X.N.length/\aA (aN H1 O1) (aN G P)/\gU (ib is one k) bd (xs.drop i) υ=some fl,⟨xs.length,by simp,Be _,O1,_,R1.ext sJ,hl,aA.refl _,h⟩,?_⟩;rintro i m σ' G ⟨rfl,hi',P,υ,RP,hlP,sP,hrun⟩;have okP:wO (aN H1 O1) G P:=⟨RP.lsts,sP⟩
 by_cases hlt:i<xs.length
 ·refine .inr ⟨En.go G P i okP hlt,fun σ2 G2=>∃m',m' <xs.length-i/\(m' =xs.length-(i+1)/\i+1<=xs.length/\∃(P:List Addr)(υ:IR.En),aX X.K Hi P υ σ2 G2/\σ2.length=X.N.length/\aA (aN H1 O1) (aN G2 P)/\gU (ib is one k) bd (xs.drop (i+1)) υ=some fl),
   fun σ2 G2 h=>h,fun u G' y=> ?_⟩
  obtain⟨sG,x,hx,rx⟩:=En.yld G P i u G' okP hlt y;have hd:xs.drop i=x::xs.drop (i+1):=by
   rw[List.drop_eq_getElem_cons hlt];rw[BU hlt]at hx;rw[Bc hx]
  rw[hd]at hrun;unfold gU at hrun;obtain⟨υ1,h1,hrun⟩:=bind_some hrun;obtain⟨f,hf,hrun⟩:=bind_some hrun;refine kg P υ υ1 σ' G' k x u _ (RP.ext sG) hlP rx h1 fun σ1 R2 hl1=> ?_;have s3:aA (aN H1 O1) (aN G' P):=sP.trans (aM sG);refine hb υ1 f hf P σ1 G' _ R2 hl1 ?_;cases f with
  | nx υ2=>exact fun σ3 G3 P3 R3 hl3 s4=>⟨_,by omega,rfl,hlt,P3,υ2,R3,hl3,s3.trans s4,hrun⟩
  | ct υ2=>exact fun σ3 G3 P3 R3 hl3 s4=>⟨_,by omega,rfl,hlt,P3,υ2,R3,hl3,s3.trans s4,hrun⟩
  | bk υ2 =>
   have hrun:some (Fl.nx υ2)=some fl:=hrun;cases hrun;exact fun σ3 G3 P3 R3 hl3 s4=>q σ3 G3 P3 R3 hl3 (s2.trans (s3.trans s4))
  | rt v =>
   have hrun:some (Fl.rt v)=some fl:=hrun;cases hrun;exact q
 ·have e:i=xs.length:=by omega
  subst e;rw[List.drop_length]at hrun;have hrun:some (Fl.nx υ)=some fl:=hrun;cases hrun;exact .inl ⟨En.stop G P okP,q σ' G P RP hlP (s2.trans sP)⟩
theorem pR(C:bG cd X ct){c:Expr}{body:List Stmt}{pos:Pos}{ce:En->Option Bool}{bd:En->Option Fl}{fl:Fl}(hc:∀τ b,ce τ=some b->cW X Hi τ c b)(hb:∀τ fl,bd τ=some fl->o0 X Hi τ body fl){fu:Nat}(h:vv ce bd fu τ=some fl) :
  jS X Hi τ (.While c body [] pos) fl:=by
 intro O σ H D R hl q;refine ws (qL C.xe gq bF) ?_;refine⟨fun m σ' G=>∃(P:List Addr)(υ:IR.En),aX X.K Hi P υ σ' G/\σ'.length=X.N.length/\aA (aN H O) (aN G P)/\vv ce bd m υ=some fl,⟨fu,O,τ,R,hl,aA.refl _,h⟩,?_⟩;rintro m σ' G ⟨P,υ,RP,hlP,sP,hrun⟩;cases m with
 | zero=>cases hrun
 | succ m =>
  unfold vv at hrun;obtain⟨b,hbv,hrun⟩:=bind_some hrun;refine hc υ b hbv P σ' G _ RP fun G1 s1=> ?_;cases b with
  | false =>
   rw[BI BC]at hrun ⊢;cases hrun;exact q σ' G1 P (RP.ext s1) hlP (sP.trans (aM s1))
  | true =>
   rw[BK rfl]at hrun ⊢;obtain⟨f,hf,hrun⟩:=bind_some hrun;refine⟨fun σ2 G2=>∃m',m' <m+1/\∃(P:List Addr)(υ:IR.En),aX X.K Hi P υ σ2 G2/\σ2.length=X.N.length/\aA (aN H O) (aN G2 P)/\vv ce bd m' υ=some fl,fun σ2 G2 h=>h,?_⟩;have s3:aA (aN H O) (aN G1 P):=sP.trans (aM s1);refine hb υ f hf P σ' G1 _ (RP.ext s1) hlP ?_;cases f with
   | nx υ2=>exact fun σ3 G3 P3 R3 hl3 s4=>⟨m,by omega,P3,υ2,R3,hl3,s3.trans s4,hrun⟩
   | ct υ2=>exact fun σ3 G3 P3 R3 hl3 s4=>⟨m,by omega,P3,υ2,R3,hl3,s3.trans s4,hrun⟩
   | bk υ2 =>
    have hrun:some (Fl.nx υ2)=some fl:=hrun;cases hrun;exact fun σ3 G3 P3 R3 hl3 s4=>q σ3 G3 P3 R3 hl3 (s3.trans s4)
   | rt v =>
    have hrun:some (Fl.rt v)=some fl:=hrun;cases hrun;exact q
theorem tZ{i:Nat}{xs ys:List PV}{n m:Bool}{O:List Addr}{σ:L2.St}{H:Hp}{l:Addr}{us:List V}{P:L2.St->Hp->Prop}(R:aX X.K Hi O τ σ H)(hl:σ.length=X.N.length)(e:τ[i]? =some (.own xs n))(g:σ[i]? =some (some (.ref l)))(r:aF X.K Hi m ys (aN H O) us)
  (q:nl X Hi O H (τ.set i (.own ys m)) P):P σ (L2.upd H l (.lst us)):=by
 have R2:=R.upd e g r;refine q σ _ O R2 hl fun b o z=> ?_;obtain⟨l',vs,g1,g2,_⟩:=R.owns i xs n e;rw[g]at g1;cases g1;unfold aN at z ⊢
 split at z
 ·cases z
 ·rename_i nb
  have ne:b≠l:=fun c=>nb (c▸g2);rw[BI nb,aE ne];exact z
theorem yh(C:bG cd X ct){n:Nat}{x m:Str}{i:Nat}{cap:List Nat}{a:Expr}{xp ap cp pos:Pos}{r:RV}{v:PV}{k j:Bool}{xs:List PV}(hx:loc ct x=some i)(hm:m="append")(hline:(ap.endLine==cp.line)=true)(hs:isStar a=false)
  (hr:aL cd (aa n ct a) (aw cap τ)=some r) (hk:r.keep=some (v,k)) (ho:(aw cap τ)[i]? =some (.own xs j)) (hz:xs.length<LN) :
  jS X Hi τ (.Expr (.Call (.Attribute (.Name x xp) m ap) [a] [] cp) pos) (.nx ((aw cap τ).set i (.own (xs++[v]) (j&&k)))):=by
 intro O σ H D R hl q;subst hm;obtain⟨h1,h2,h3,h4⟩:=i5 C hx;obtain⟨O1,R1,s1⟩:=jH (cap:=cap) R;obtain⟨o1,o2,o3⟩:=bX h3;refine ws (mj (qp PySem.F.plainAttrs_list PySem.F.slot_list_append PySem.F.type_list_append iH (lO h1 (pS C.S h4) o1 o2) (aC aS aT (aW hs)) rfl (by rw[aW hs];rfl) hline (aW hs) rfl) rfl) ?_;obtain⟨l,us,g1,g2,g3,g4⟩:=R1.owns i xs j ho;refine⟨_,g1,.inl ⟨rfl,us,aj.of g3⟩,?_⟩;refine(dO n).e X ct Hi _ a r C hr O1 σ H _ R1 fun u H' s ok=> ?_;have kp:=ok.keep R1 s hk;have hlen:=g4.len;refine⟨l,us,u,rfl,rfl,s _ _ g3,by rw[cT,<-hlen];exact hz,?_⟩;exact tZ (R1.ext s) hl ho g1 (xj (g4.mono (aM s)) (.cons kp .nil)) (nl.from q (s1.trans (aM s)))
theorem aF.dropLast{n:Bool}{xs:List PV}{H:Hp}{us:List V}(h:aF X.K Hi n xs H us):aF X.K Hi n xs.dropLast H us.dropLast:=by
 rw[List.dropLast_eq_take,List.dropLast_eq_take,<-h.len];exact h.take _
end
section
variable{cd:Nat->List PV->Option PV}{fu:Nat}
structure A7(cd:Nat->List PV->Option PV)(fu:Nat)(n:Nat):Prop where
 s:∀(X:Cx)(ct:Ct)(Hi:Hp)(τ:En)(st:Stmt)(fl:Fl),bG cd X ct->(X.fn=fun _=>true)->de cd fu (lA n ct st) τ=some fl->jS X Hi τ st fl
 ss:∀(X:Cx)(ct:Ct)(Hi:Hp)(τ:En)(st:List Stmt)(fl:Fl),bG cd X ct->(X.fn=fun _=>true)->al cd fu (dE n ct st) τ=some fl->o0 X Hi τ st fl
theorem ao{τ:En}{r:Fl}(h:de cd fu .never τ=some r){P:Prop}:P:=by simp[fY,fK,fJ,fQ,fU,fH,fO,fX,fW,fZ,fV,fT,fN,fP]at h
theorem stE{n:Nat}(IH:A7 cd fu n){X:Cx}{ct:Ct}{Hi:Hp}{τ:En}{st:Stmt}{fl:Fl}(C:bG cd X ct)(hfn:X.fn=fun _=>true)(h:de cd fu (lA (n+1) ct st) τ=some fl):jS X Hi τ st fl:=by
 cases st with
 | Return v pos =>
  simp only[pG,o7,pF,pA,pB,o6,o9,pE,pD,pC,o8]at h;cases v with
  | none =>
   simp only[fY,fK,fJ,fQ,fU,fH,fO,fX,fW,fZ,fV,fT,fN,fP]at h;cases h;exact uG
  | some e =>
   simp only[fY,fK,fJ,fQ,fU,fH,fO,fX,fW,fZ,fV,fT,fN,fP]at h;obtain⟨r,hr,h⟩:=bind_some h;obtain⟨w,hk,h⟩:=bind_some h;obtain⟨v,m⟩:=w;dsimp only at h
   split at h
   ·rename_i hm
    cases h;subst hm;exact xB C hr hk
   ·cases h
 | Assign ts e pos =>
  simp only[pG,o7,pF,pA,pB,o6,o9,pE,pD,pC,o8]at h
  split at h
  ·rename_i x xp
   cases hx:loc ct x with
   | none=>rw[hx]at h;exact ao h
   | some i =>
    rw[hx]at h;dsimp only at h;simp only[fY,fK,fJ,fQ,fU,fH,fO,fX,fW,fZ,fV,fT,fN,fP]at h;obtain⟨r,hr,h⟩:=bind_some h;obtain⟨τ',hp',h⟩:=map_some h;subst h;exact yf C hfn hx hr hp'
  ·exact ao h
 | If c a b pos =>
  simp only[pG,o7,pF,pA,pB,o6,o9,pE,pD,pC,o8,fY,fK,fJ,fQ,fU,fH,fO,fX,fW,fZ,fV,fT,fN,fP]at h;obtain⟨t,ht,h⟩:=bind_some h;refine yB ((dO n).c X ct Hi τ c t C ht) ?_;cases t with
  | true=>exact IH.ss X ct Hi τ a fl C hfn h
  | false=>exact IH.ss X ct Hi τ b fl C hfn h
 | For tg it body els pos =>
  simp only[pG,o7,pF,pA,pB,o6,o9,pE,pD,pC,o8]at h;cases els with
  | cons _ _=>exact ao h
  | nil =>
   dsimp only at h;cases ht:pZ ct tg with
   | none=>rw[ht]at h;exact ao h
   | some w =>
    obtain⟨is,one⟩:=w;rw[ht]at h;simp only[fY,fK,fJ,fQ,fU,fH,fO,fX,fW,fZ,fV,fT,fN,fP]at h;obtain⟨w,hw,h⟩:=bind_some h;obtain⟨xs,k,b⟩:=w;dsimp only at h;cases b with
    | true=>cases h
    | false=>exact yI C hfn ht hw (fun τ fl h=>IH.ss X ct Hi τ body fl C hfn h) h
 | While c body els pos =>
  simp only[pG,o7,pF,pA,pB,o6,o9,pE,pD,pC,o8]at h;cases els with
  | cons _ _=>exact ao h
  | nil =>
   simp only[fY,fK,fJ,fQ,fU,fH,fO,fX,fW,fZ,fV,fT,fN,fP]at h;exact pR C (fun τ b h=>(dO n).c X ct Hi τ c b C h) (fun τ fl h=>IH.ss X ct Hi τ body fl C hfn h) h
 | Pass pos =>
  simp only[pG,o7,pF,pA,pB,o6,o9,pE,pD,pC,o8,fY,fK,fJ,fQ,fU,fH,fO,fX,fW,fZ,fV,fT,fN,fP]at h;cases h;exact fun O σ H D R hl q=>ws uP (q σ H O R hl (aA.refl _))
 | Break pos =>
  simp only[pG,o7,pF,pA,pB,o6,o9,pE,pD,pC,o8,fY,fK,fJ,fQ,fU,fH,fO,fX,fW,fZ,fV,fT,fN,fP]at h;cases h;exact fun O σ H D R hl q=>ws qP (q σ H O R hl (aA.refl _))
 | Continue pos =>
  simp only[pG,o7,pF,pA,pB,o6,o9,pE,pD,pC,o8,fY,fK,fJ,fQ,fU,fH,fO,fX,fW,fZ,fV,fT,fN,fP]at h;cases h;exact fun O σ H D R hl q=>ws j6 (q σ H O R hl (aA.refl _))
 | Expr e pos =>
  simp only[pG,o7,pF,pA,pB,o6,o9,pE,pD,pC,o8]at h
  split at h
  ·rename_i x xp m ap es cp
   split at h
   ·rename_i hline
    cases hx:loc ct x with
    | none=>rw[hx]at h;exact ao h
    | some i =>
     rw[hx]at h;dsimp only at h
     split at h
     ·rename_i a
      split at h
      ·exact ao h
      ·rename_i hs
       split at h
       ·rename_i hm
        simp only[fY,fK,fJ,fQ,fU,fH,fO,fX,fW,fZ,fV,fT,fN,fP]at h;obtain⟨r,hr,h⟩:=bind_some h;obtain⟨w,hk,h⟩:=bind_some h;obtain⟨v,k⟩:=w
        split at h
        ·rename_i xs j ho
         split at h
         ·rename_i hz
          cases h;exact yh C hx (BW hm) hline (Bx.mpr hs) hr hk ho hz
         ·cases h
        ·cases h
       ·exact ao h
     ·exact ao h
   ·exact ao h
  ·exact ao h
 | Raise e c pos =>
  simp only[pG,o7,pF,pA,pB,o6,o9,pE,pD,pC,o8]at h
  split at h
  ·split at h
   ·simp[fY,fK,fJ,fQ,fU,fH,fO,fX,fW,fZ,fV,fT,fN,fP]at h
   ·exact ao h
  ·exact ao h
 | _=>(try simp only[pG,o7,pF,pA,pB,o6,o9,pE,pD,pC,o8]at h);exact ao h
theorem yj:∀n:Nat,A7 cd fu n
 | 0=>by
  refine⟨fun X ct Hi τ st fl C hfn h=> ?_,fun X ct Hi τ st fl C hfn h=> ?_⟩
  ·simp[pG,o7,pF,pA,pB,o6,o9,pE,pD,pC,o8,fY,fK,fJ,fQ,fU,fH,fO,fX,fW,fZ,fV,fT,fN,fP]at h
  ·simp[z27,z29,z28,pN,pO,fY,fK,fJ,fQ,fU,fH,fO,fX,fW,fZ,fV,fT,fN,fP]at h
 | n+1=>by
  have IH:=yj n;refine⟨fun X ct Hi τ st fl C hfn h=>stE IH C hfn h,fun X ct Hi τ st fl C hfn h=> ?_⟩;cases st with
  | nil =>
   simp only[z27,z29,z28,pN,pO]at h;cases h;exact fun O σ H D R hl q=>mT dm (q σ H O R hl (aA.refl _))
  | cons st ss =>
   simp only[z27,z29,z28]at h;simp only[pN,pO]at h;obtain⟨f,hf,h⟩:=bind_some h;have h1:=IH.s X ct Hi τ st f C hfn hf;intro O σ H D R hl q;refine mT (ag j5 bF) ?_;refine h1 O σ H _ R hl ?_;cases f with
   | nx τ1=>exact fun σ1 H1 O1 R1 hl1 s1=>IH.ss X ct Hi τ1 ss fl C hfn h O1 σ1 H1 D R1 hl1 (q.from s1)
   | bk τ1 =>
    have h:some (Fl.bk τ1)=some fl:=h;cases h;exact q
   | ct τ1 =>
    have h:some (Fl.ct τ1)=some fl:=h;cases h;exact q
   | rt v =>
    have h:some (Fl.rt v)=some fl:=h;cases h;exact q
end
structure mS(K:W.Frag)(mg:Str->Option Value)(P:Nat->Option FD)(F:List (Str×Nat))(G:List (Str×PV))(B:List Str)(x:Str)(f:Nat)(a:Addr)(fd:FuncData)(ps:List Str):Prop where
 ex:(mg x=some (.ref a)/\W.keepIn K (.ref a)=true/\Binds K fd ps []/\∀(p:Program)(w:World)(base:Heap)(k:Nat),(∀j,j<=k->∀y g,F.lookup y=some g->∃b gd qs,mg y=some (.ref b)/\W.keepIn K (.ref b)=true/\Binds K gd qs []/\ah p w K mg base cY j b gd qs (mX K (aB P j g)))->ah p w K mg base cY (k+1) a fd ps (mX K (aB P (k+1) f)))\/∃st N M n body,tU K mg x st ps a fd/\ax N ps (aH st)/\P f=some ⟨N.length,ps.length,body⟩/\dE n ⟨N,(aH st).names,F,G,B,M⟩ (aZ st)=body
theorem mS.def{K:W.Frag}{mg:Str->Option Value}{P:Nat->Option FD}{F:List (Str×Nat)}{G:List (Str×PV)}{B:List Str}{x:Str}{f:Nat}{a:Addr}{fd:FuncData}{ps:List Str}(d:mS K mg P F G B x f a fd ps):mg x=some (.ref a)/\W.keepIn K (.ref a)=true/\Binds K fd ps []:=by
 rcases d.ex with⟨h1,h2,h3,_⟩|⟨st,N,M,n,body,D,_⟩
 ·exact⟨h1,h2,h3⟩
 ·exact⟨D.nm,D.fn.kp,D.bd⟩
theorem eP{K:W.Frag}{H:Hp}{d:FD}{N:List Str}{pvs:List PV}{vs:List V}(hn:d.nn=N.length)(r:aF K H false pvs H vs):aX K H [] (entry d pvs) (start N vs) H:=by
 have hl:=r.len;have at_:∀(i:Nat)(t:TV),(entry d pvs)[i]? =some t->t=.un\/∃v u,t=.frz v (imm v)/\(start N vs)[i]? =some (some u)/\Rp K H false v H u:=fun i t e=>by
  unfold entry at e
  by_cases hi:i<pvs.length
  ·rw[DH (by simpa using hi),Bi]at e
   have hv:pvs[i]? =some pvs[i]:=by simp
   rw[hv]at e;cases e;obtain⟨u,hu,ru⟩:=r.at hv;refine .inr ⟨_,u,rfl,?_,ru⟩;unfold L2.start;rw[DH (by rw[BJ];omega),Bi,hu];rfl
  ·rw[List.getElem?_append_right (by simpa using hi),List.getElem?_replicate]at e
   split at e
   ·cases e
    exact .inl rfl
   ·cases e
 refine⟨aA.refl _,fun l hl=>(by cases hl),fun i v n e=> ?_,fun i t b xs n e ht=> ?_,fun i j t t' x y l e1 ht e2 ht' h1 h2=> ?_⟩
 ·rcases at_ i _ e with z|⟨v',u,z,h1,h2⟩
  ·cases z
  ·cases z
   refine⟨u,h1,?_⟩;rw[jC];cases him:imm v with
   | true=>exact Rp.imm him ⟨fun _ _ e=>e,fun _ _ _ e=>e⟩ h2
   | false=>exact h2
 ·rcases at_ i _ e with z|⟨v',u,z,h1,h2⟩<;>(subst z;cases ht)
 ·rcases at_ i _ e1 with z|⟨v',u,z,h1,h2⟩<;>(subst z;cases ht)
theorem yM{p:Program}{w:World}{K:W.Frag}{mg:Str->Option Value}{base:Heap}{P:Nat->Option FD}{F:List (Str×Nat)}{G:List (Str×PV)}{B:List Str}
  (hG:∀x v,G.lookup x=some v->∃u w,mg x=some u/\RelV w u/\∀Hi n H,Rp K Hi n v H w) (hB:∀x,B.contains x=true->mg x=none) (hF:∀x f,F.lookup x=some f->∃a fd ps,mS K mg P F G B x f a fd ps) :
  ∀(k:Nat)(x:Str)(f:Nat)(a:Addr)(fd:FuncData)(ps:List Str),mS K mg P F G B x f a fd ps->ah p w K mg base cY k a fd ps (mX K (aB P k f)):=by
 have S:∀k j:Nat,j<=k->∀(x:Str)(f:Nat)(a:Addr)(fd:FuncData)(ps:List Str),mS K mg P F G B x f a fd ps->ah p w K mg base cY j a fd ps (mX K (aB P j f)):=by
  intro k
  induction k with
  | zero =>
   intro j hj;have e:=Nat.le_zero.mp hj;subst e;intro x f a fd ps _;exact⟨fun vs H Q E h=>(by obtain⟨_,_,_,z,_⟩:=h;cases z),fun A outer s H args us vs Q E _ _ _ _ h=>(by obtain⟨_,_,_,z,_⟩:=h;cases z)⟩
  | succ k ih =>
  intro j hj
  by_cases hjk:j<=k
  ·exact ih j hjk
  have e:j=k+1:=by omega
  subst e;intro x f a fd ps d
  rcases d.ex with⟨_,_,_,hand⟩|⟨st,N,M,n,body,D,S,hP,hbody⟩
  ·exact hand p w base k fun j hj y g hy=>by
    obtain⟨b,gd,qs,dy⟩:=hF y g hy;obtain⟨z1,z2,z3⟩:=dy.def;exact⟨b,gd,qs,z1,z2,z3,ih j hj y g b gd qs dy⟩
  have run:∀{pvs:List PV}{r:PV},aB P (k+1) f pvs=some r->pvs.length=ps.length/\cR (al (aB P k) 1000000 body (entry ⟨N.length,ps.length,body⟩ pvs))=some r:=fun{pvs r} h=>by
   unfold aB at h;rw[hP]at h;dsimp only[Option.bind]at h
   split at h
   ·rename_i hl
    exact⟨hl,h⟩
   ·cases h
  refine D.fn.ok S (fun vs H Q E h=> ?_) (fun cdv A outer s H vs Q E hr h=> ?_)
  ·obtain⟨pvs,r,h1,h2,_⟩:=h
   rw[<- h1.len];exact(run h2).1
  ·obtain⟨pvs,r,h1,h2,q⟩:=h
   obtain⟨hl,h2⟩:=run h2;have hps:ps.length<=N.length:=by have:=B4 List.length S.pre;rw[CN]at this;omega
   cases he:al (aB P k) 1000000 body (entry ⟨N.length,ps.length,body⟩ pvs)with
   | none=>rw[he]at h2;cases h2
   | some fl =>
    rw[he]at h2
    have C:bG (aB P k) (cV cY p w K mg base N x (aH st) a cdv A outer s H E).nox ⟨N,(aH st).names,F,G,B,M⟩ :=
     ⟨rfl,S.nd,rfl,S.kind,rfl,hG,hB,fun y g hy=>by
      obtain⟨a',fd',ps',d'⟩:=hF y g hy;obtain⟨z1,z2,z3⟩:=d'.def;exact⟨k,a',fd',ps',ih k (BD k) y g a' fd' ps' d',hr,z1,z2,z3⟩,DG,hr.units⟩
    rw[<- hbody]at he;have h3:=(yj n).ss _ _ H _ (aZ st) fl C rfl he;refine⟨_,bF,h3 [] (start N vs) H _ (eP rfl h1) ?_ ?_⟩
    ·show(start N vs).length=N.length
     unfold L2.start;rw[BL,BJ,CU];have:=h1.len;omega
    ·cases fl with
     | nx τ' =>
      cases h2;exact fun σ' H' O' R' _ _=>q _ _ R'.same (Rp.non.mpr rfl)
     | rt v =>
      cases h2;exact q
     | bk τ' =>cases h2
     | ct τ' =>cases h2
 exact fun k=>S k k (BD k)
theorem xm{p:Program}{w:World}{K:W.Frag}{mg:Str->Option Value}{base:Heap}{P:Nat->Option FD}{k f:Nat}{a:Addr}{fd:FuncData}{ps:List Str}(F:ah p w K mg base cY k a fd ps (mX K (aB P k f)))
  (h:∀ns:List Int,ns.length<=63->aB P k f [.lst (ns.map PV.int)]=some (.bl true)):ah p w K mg base cY k a fd ps (mW K) :=
 F.imp fun vs H Q E z=>by
  obtain⟨l,ns,rfl,hS,h63,q⟩:=z;refine⟨[.lst (ns.map PV.int)],.bl true,.cons (Rp.lst.mpr ⟨l,_,rfl,(fun z=>by cases z),hS,aF.ints.mpr rfl⟩) .nil,h ns h63,fun u H' s r=> ?_⟩;rw[Rp.bl.mp r];exact q H'
theorem nq{P:Nat->Option FD}{f n m:Nat}(h:P f=some ⟨n,m,.cons .never .nil⟩):∀(k:Nat)(vs:List PV),aB P k f vs=none
 | 0,_=>rfl
 | k+1,vs=>by
  unfold aB;rw[h,BO]
  split
  ·simp[pN,pO,fY,fK,fJ,fQ,fU,fH,fO,fX,fW,fZ,fV,fT,fN,fP,cR]
  ·rfl
theorem tX{K:W.Frag}{mg:Str->Option Value}{P:Nat->Option FD}{f:Nat}{a:Addr}{fd:FuncData}{ps:List Str}{A:Program->World->Heap->Nat->Prop}(h:∀(k:Nat) (vs:List PV),aB P k f vs=none)(p:Program)(w:World)(base:Heap)(k:Nat)(_:A p w base k):ah p w K mg base cY (k+1) a fd ps (mX K (aB P (k+1) f)) :=
 ⟨fun vs H Q E z=>(by obtain⟨_,_,_,z,_⟩:=z;rw[h]at z;cases z),fun A outer s H args us vs Q E _ _ _ _ z=>(by obtain⟨_,_,_,z,_⟩:=z;rw[h]at z;cases z)⟩
section
variable{K:W.Frag}{mg:Str->Option Value}{P:Nat->Option FD}{F0:List (Str×Nat)}{G0:List (Str×PV)}{B0:List Str}
theorem fnil:∀(x:Str)(f:Nat),([]:List (Str×Nat)).lookup x=some f->∃a fd ps,mS K mg P F0 G0 B0 x f a fd ps:=fun x f h=>by cases h
theorem bY{x0:Str}{f0:Nat}{r:List (Str×Nat)}(h:∃a fd ps,mS K mg P F0 G0 B0 x0 f0 a fd ps)(hr:∀(x:Str) (f:Nat),r.lookup x=some f->∃a fd ps,mS K mg P F0 G0 B0 x f a fd ps) :
  ∀(x:Str)(f:Nat),((x0,f0)::r).lookup x=some f->∃a fd ps,mS K mg P F0 G0 B0 x f a fd ps:=fun x f e=>by
 rw[Bb]at e
 split at e
 ·rename_i c
  cases e;rw[BW c];exact h
 ·exact hr x f e
theorem gnil:∀(x:Str)(v:PV),([]:List (Str×PV)).lookup x=some v->∃u w,mg x=some u/\RelV w u/\∀Hi n H,Rp K Hi n v H w:=fun x f h=>by cases h
theorem re{x0:Str}{v0:PV}{r:List (Str×PV)}(h:∃u w,mg x0=some u/\RelV w u/\∀Hi n H,Rp K Hi n v0 H w)(hr:∀(x:Str) (v:PV),r.lookup x=some v->∃u w,mg x=some u/\RelV w u/\∀Hi n H,Rp K Hi n v H w) :
  ∀(x:Str)(v:PV),((x0,v0)::r).lookup x=some v->∃u w,mg x=some u/\RelV w u/\∀Hi n H,Rp K Hi n v H w:=fun x f e=>by
 rw[Bb]at e
 split at e
 ·rename_i c
  cases e;rw[BW c];exact h
 ·exact hr x f e
theorem bnil:∀(x:Str),([]:List Str).contains x=true->mg x=none:=fun x h=>by simp at h
theorem cv{x0:Str}{r:List Str}(h:mg x0=none)(hr:∀(x:Str),r.contains x=true->mg x=none):∀(x:Str),(x0::r).contains x=true->mg x=none:=fun x e=>by
 rw[Ch,CH]at e
 rcases e with e|e
 ·rw[BW e]
  exact h
 ·exact hr x e
end
theorem rL{α:Type}{us:List α}(h:us.length=1):∃a,us=[a]:=by
 cases us with
 | nil=>cases h
 | cons a us=>cases us with
  | nil=>exact⟨a,rfl⟩
  | cons b us=>cases h
theorem AR{α:Type}{us:List α}(h:us.length=2):∃a b,us=[a,b]:=by
 cases us with
 | nil=>cases h
 | cons a us=>obtain⟨b,rfl⟩:=rL (Nat.succ.inj h);exact⟨a,b,rfl⟩
theorem len3{α:Type}{us:List α}(h:us.length=3):∃a b c,us=[a,b,c]:=by
 cases us with
 | nil=>cases h
 | cons a us=>obtain⟨b,c,rfl⟩:=AR (Nat.succ.inj h);exact⟨a,b,c,rfl⟩
noncomputable def cM:Nat->mQ->mQ
 | 0,s=>s
 | n+1,.cons _ r=>cM n r
 | _+1,.nil=>.nil
theorem kZ{set:PV->En->Option En}{body:En->Option Fl}(I:Nat->En->Prop)(R:Fl->Prop):∀(xs ys:List PV)(τ:En),I xs.length τ ->
  (∀(i:Nat)(x:PV)(τ:En),(xs++ys)[i]? =some x->xs.length<=i->I i τ->∃τ1 f,set x τ=some τ1/\body τ1=some f/\(match f with| .nx τ2=>I (i+1) τ2| .ct τ2=>I (i+1) τ2| .bk τ2=>R (.nx τ2)| .rt v=>R (.rt v))) ->
  (∀τ,I (xs++ys).length τ->R (.nx τ))->∃fl,gU set body ys τ=some fl/\R fl
 | xs,[],τ,h0,hs,he=>⟨.nx τ,rfl,he τ (by rw[Bz];exact h0)⟩
 | xs,y::ys,τ,h0,hs,he=>by
  obtain⟨τ1,f,h1,h2,h3⟩:=hs xs.length y τ (by simp) (BD _) h0;have e:xs++y::ys=(xs++[y])++ys:=by simp
  have ih:=fun τ2 (h:I (xs.length+1) τ2)=>kZ (set:=set) (body:=body) I R (xs++[y]) ys τ2 (by rw[BL];exact h) (fun i x τ hx hi=>hs i x τ (by rw[e];exact hx) (by rw[BL]at hi;omega)) (by rw[<- e];exact he);unfold gU;rw[h1];dsimp only[Option.bind];rw[h2];cases f with
  | nx τ2=>exact ih τ2 h3
  | ct τ2=>exact ih τ2 h3
  | bk τ2=>exact⟨_,rfl,h3⟩
  | rt v=>exact⟨_,rfl,h3⟩
theorem vJ{set:PV->En->Option En}{body:En->Option Fl}{xs:List PV}{τ:En}(I:Nat->En->Prop)(R:Fl->Prop)(h0:I 0 τ)
  (hs:∀(i:Nat)(x:PV)(τ:En),xs[i]? =some x->I i τ->∃τ1 f,set x τ=some τ1/\body τ1=some f/\(match f with| .nx τ2=>I (i+1) τ2| .ct τ2=>I (i+1) τ2| .bk τ2=>R (.nx τ2)| .rt v=>R (.rt v)))
  (he:∀τ,I xs.length τ->R (.nx τ)):∃fl,gU set body xs τ=some fl/\R fl :=
 kZ I R [] xs τ h0 (fun i x τ hx _ hI=>hs i x τ hx hI) he
theorem eQ{f:PV->Option (Option (PV×Bool))}{g:PV->PV}{n:Bool}:∀{xs:List PV},(∀x∈xs,f x=some (some (g x,true)))->cU f xs=some (xs.map g,true)
 | [],_=>rfl
 | x::xs,h=>by
  unfold cU;rw[h x BN,eQ (n:=n) fun y hy=>h y (BF _ hy)];rfl
section
variable{v:PV}{n m:Bool}{xs ys:List PV}{i j:Int}{z y:Str}{a b:RV}{τ:En}{t:TV}{k:Nat}
theorem bR:(RV.frz v n).val=v:=rfl
theorem tY:(RV.own xs n).val=.lst xs:=rfl
theorem rQ:(RV.frz v n).keep=some (v,n):=rfl
theorem uw:bJ (.lst xs)=some xs.length:=rfl
theorem uv:bJ (.tup xs)=some xs.length:=rfl
theorem len_str:bJ (.str z)=if z.length<=LN then some z.length else none:=rfl
theorem vL:cR (some (.rt v))=some v:=rfl
theorem yF:dF (.frz v n::τ) 0=some (.frz v n):=rfl
theorem yG:dF (t::τ) (k+1)=dF τ k:=rfl
theorem rg:aw [] τ=τ:=rfl
theorem oi{c:List Nat}:aw (k::c) τ=aw c (jI τ k):=rfl
theorem vG:jI (.own xs n::τ) 0=.frz (.lst xs) n::τ:=rfl
theorem vH:jI (.frz v n::τ) 0=.frz v n::τ:=rfl
theorem yH:jI (t::τ) (k+1)=t::jI τ k:=by
 unfold jI;rw[CP];cases τ[k]? with
 | none=>rfl
 | some t=>cases t<;>rfl
theorem vd:cr .Add (.frz (.int i) n) (.frz (.int j) m)=some (sc (.int (i+j))):=rfl
theorem vZ:cr .Mult (.frz (.int i) n) (.frz (.int j) m)=if(-(2^64)<i/\i<2^64)\/(-(2^64)<j/\j<2^64)then some (sc (.int (i*j)))else if i.natAbs<2^2000/\j.natAbs<2^2000 then some (sc (.int (i*j)))else none:=rfl
theorem vb:cr .FloorDiv (.frz (.int i) n) (.frz (.int j) m)=if 0<j/\j<2^200 then some (sc (.int (i/j)))else none:=rfl
theorem va:cr .Mod (.frz (.int i) n) (.frz (.int j) m)=if 0<j then some (sc (.int (i%j)))else none:=rfl
theorem vY:cr .LShift (.frz (.int i) n) (.frz (.int j) m)=if 0<=j/\j<=1000000/\i.natAbs<2^64 then some (sc (.int (i*2^j.toNat)))else none:=rfl
theorem vc:cr .Add (.frz (.str z) n) (.frz (.str y) m)=if z.length+y.length<=LN then some (sc (.str (z++y)))else none:=rfl
theorem yX:ar .Lt (.int i) (.int j)=some (decide (i<j)):=rfl
theorem yY:ar .LtE (.int i) (.int j)=some (decide (i<=j)):=rfl
theorem vT:ar .Eq (.int i) (.int j)=some (decide (i=j)):=rfl
theorem vS:ar .Eq (.str z) (.str y)=some (decide (z=y)):=rfl
end
section
variable{cd:Nat->List PV->Option PV}{fu:Nat}{s:IS}{ss:mQ}{τ τ1:En}{v:PV}
theorem cg(h:de cd fu s τ=some (.nx τ1)):al cd fu (.cons s ss) τ=al cd fu ss τ1:=by simp only[pN,pO,h,BO,eg]
end
theorem eO{cd:Nat->List PV->Option PV}{fu:Nat}{s:IS}{ss:mQ}{τ:En}:al cd fu (.cons s ss) τ=(de cd fu s τ).bind fun f=>eg f (al cd fu ss):=by simp only[pN,pO]
theorem gY{cd:Nat->List PV->Option PV}{fu:Nat}{τ:En}:al cd fu .nil τ=some (.nx τ):=by simp only[pN,pO]
theorem run{P:Nat->Option FD}{k f:Nat}{d:FD}{vs:List PV}{r:PV}(hP:P f=some d)(hl:vs.length=d.np)(h:cR (al (aB P k) 1000000 d.body (entry d vs))=some r):aB P (k+1) f vs=some r:=by
 show(P f).bind _=_;rw[hP];show(if vs.length=d.np then _ else _)=_;rw[BK hl];exact h
section
variable{a b:RV}{t:String}{n m:Bool}{xs ys:List PV}{i j:Int}{bl:Bool}
theorem cP{τ:En}{k:En->Option Fl}:eg (.nx τ) k=k τ:=rfl
theorem tm{v:PV}{k:En->Option Fl}:eg (.rt v) k=some (.rt v):=rfl
theorem pY:jo (.bl bl)=some bl:=rfl
theorem sj:fA (.bl bl)=some bl:=rfl
theorem uD{z:Str}:iD (.frz (.str z) n)=some (signs z,true,false):=rfl
theorem uC:iD (.frz (.tup xs) n)=some (xs,n,false):=rfl
theorem uE:iD (.own xs n)=some (xs,n,false):=rfl
theorem zx{τ:En}{k:Nat}:fF true k (.own xs n) τ=some (τ.set k (.own xs n)):=rfl
theorem xG{τ:En}{k:Nat}{o:Bool}{v:PV}:fF o k (.frz v n) τ=some (τ.set k (.frz v n)):=by cases o<;>rfl
theorem wd:jp (.lst xs)=.own xs true:=rfl
theorem wc:jp (.tup xs)=.frz (.tup xs) true:=rfl
theorem wf:jp (.int i)=.frz (.int i) true:=rfl
theorem wg:jp (.bl bl)=.frz (.bl bl) true:=rfl
theorem ya:mK .len [a]=(bJ a.val).map fun n=>sc (.int (n:Nat)):=rfl
theorem vf:mK .int [.frz (.bl bl) n]=some (sc (.int (if bl then 1 else 0))):=rfl
theorem ve:mK (.isin t) [a]=(bO t a.val).map fun b=>sc (.bl b):=rfl
theorem sq:mK .list [.frz (.tup xs) n]=some (.own xs n):=rfl
theorem sr:mK .list [.frz (.lst xs) n]=some (.own xs n):=rfl
theorem ou:mK .tuple [.frz (.lst xs) n]=some (.frz (.tup xs) n):=rfl
theorem yb:mK .all [.own xs n]=(eE xs).map fun bs=>sc (.bl (bs.all id)):=rfl
theorem ix_L(k:Int):index (.frz (.lst xs) n) (.frz (.int k) m)=(dN xs k).map fun e=>.frz e (n||imm e):=rfl
theorem ix_T(k:Int):index (.frz (.tup xs) n) (.frz (.int k) m)=(dN xs k).map fun e=>.frz e (n||imm e):=rfl
theorem ix_O(k:Int):index (.own xs n) (.frz (.int k) m)=(dN xs k).map fun e=>.frz e (n||imm e):=rfl
end
theorem kU{i:Int}:bO "int" (.int i)=some true:=by simp[bO]
theorem jB{i:Int}:bO "bool" (.int i)=some false:=by simp[bO]
theorem kR  :bO "str" .non=some false:=by simp[bO]
theorem lh{b:Bool}:bO "str" (.bl b)=some false:=by simp[bO]
theorem kT{i:Int}:bO "str" (.int i)=some false:=by simp[bO]
theorem kQ{z:Str}:bO "str" (.str z)=some true:=by simp[bO]
theorem kS{xs:List PV}:bO "str" (.lst xs)=some false:=by simp[bO]
theorem kP{xs:List PV}:bO "str" (.tup xs)=some false:=by simp[bO]
theorem lg{ks:List aq}{vs:List PV}:bO "str" (.dK ks vs)=some false:=by simp[bO]
theorem jA{i:Int}:bO "list" (.int i)=some false:=by simp[bO]
theorem i8{z:Str}:bO "list" (.str z)=some false:=by simp[bO]
theorem i9{xs:List PV}:bO "list" (.lst xs)=some true:=by simp[bO]
theorem gv  :bO "tuple" .non=some false:=by simp[bO]
theorem i7{b:Bool}:bO "tuple" (.bl b)=some false:=by simp[bO]
theorem gx{i:Int}:bO "tuple" (.int i)=some false:=by simp[bO]
theorem gu{z:Str}:bO "tuple" (.str z)=some false:=by simp[bO]
theorem gw{xs:List PV}:bO "tuple" (.lst xs)=some false:=by simp[bO]
theorem gt{xs:List PV}:bO "tuple" (.tup xs)=some true:=by simp[bO]
theorem i6{ks:List aq}{vs:List PV}:bO "tuple" (.dK ks vs)=some false:=by simp[bO]
theorem l6  :ar .Is .non .non=some true:=rfl
theorem l9{i:Int}:ar .Is (.int i) .non=some false:=rfl
theorem l5{z:Str}:ar .Is (.str z) .non=some false:=rfl
theorem l7{xs:List PV}:ar .Is (.lst xs) .non=some false:=rfl
theorem ly{xs:List PV}:ar .Is (.tup xs) .non=some false:=rfl
theorem dZ{α:Type}{f:PV->Option (Option (PV×Bool))}{h:α->PV}{g:α->PV}:∀{l:List α},(∀x∈l,f (h x)=some (some (g x,true)))->cU f (l.map h)=some (l.map g,true)
 | [],_=>rfl
 | x::xs,k=>by
  rw[BZ];unfold cU;rw[k x BN,dZ fun y hy=>k y (BF _ hy)];rfl
noncomputable def To(o:Option Fl)(Q:Fl->Prop):Prop:=∃f,o=some f/\Q f
theorem tj{f:Fl}{Q:Fl->Prop}:To (some f) Q↔Q f:=⟨fun⟨g,e,h⟩=>by cases e;exact h,fun h=>⟨f,rfl,h⟩⟩
theorem To.imp{o:Option Fl}{Q Q' :Fl->Prop}(h:To o Q)(k:∀f,Q f->Q' f):To o Q' :=by
 obtain⟨f,e,q⟩:=h;exact⟨f,e,k f q⟩
theorem qD{P:Nat->Option FD}{k f:Nat}{d:FD}{vs:List PV}{Q:PV->Prop}(hP:P f=some d)(hl:vs.length=d.np)(h:To (al (aB P k) 1000000 d.body (entry d vs)) fun fl=>∃v,cR (some fl)=some v/\Q v):∃v,aB P (k+1) f vs=some v/\Q v:=by
 obtain⟨fl,e,v,h1,h2⟩:=h;exact⟨v,run hP hl (by rw[e];exact h1),h2⟩
theorem wA{P:Nat->Option FD}{k f:Nat}{d:FD}{vs:List PV}{r:PV}(hP:P f=some d)(hl:vs.length=d.np)(h:To (al (aB P k) 1000000 d.body (entry d vs)) fun fl=>cR (some fl)=some r):aB P (k+1) f vs=some r:=by
 obtain⟨fl,e,h1⟩:=h;exact run hP hl (by rw[e];exact h1)
section
variable{cd:Nat->List PV->Option PV}{fu:Nat}{τ:En}{cap:List Nat}{e e2:IE}{i j:Nat}{o one:Bool}{is:List Nat}{c:IC}{a b body:mQ}{src:IT}
theorem lu:de cd fu (.asg i o cap e) τ=(aL cd e (aw cap τ)).bind fun r=>(fF o i r (aw cap τ)).map .nx:=by simp only[fY,fK,fJ,fQ,fU,fH,fO,fX,fW,fZ,fV,fT,fN,fP]
theorem lq:de cd fu (.ret cap e) τ=(aL cd e (aw cap τ)).bind fun r=>r.keep.bind fun(v,n)=>if n then some (.rt v)else none:=by simp only[fY,fK,fJ,fQ,fU,fH,fO,fX,fW,fZ,fV,fT,fN,fP]
theorem rm:de cd fu (.ife c a b) τ=(dC cd c τ).bind fun r=>if r then al cd fu a τ else al cd fu b τ:=by simp only[fY,fK,fJ,fQ,fU,fH,fO,fX,fW,fZ,fV,fT,fN,fP]
noncomputable def j3(i:Nat)(v:PV)(m:Bool)(τ:En):Option Fl:=match τ[i]? with
  | some (.own xs n)=>if xs.length<LN then some (.nx (τ.set i (.own (xs++[v]) (n&&m))))else none
  | _=>none
theorem rq:de cd fu (.app i cap e) τ=(aL cd e (aw cap τ)).bind fun r=>r.keep.bind fun(v,m)=>j3 i v m (aw cap τ):=by simp only[fY,fK,fJ,fQ,fU,fH,fO,fX,fW,fZ,fV,fT,fN,fP];rfl
theorem j2{v:PV}{n m:Bool}{xs:List PV}(h:τ[i]? =some (.own xs n))(hz:xs.length<LN):j3 i v m τ=some (.nx (τ.set i (.own (xs++[v]) (n&&m)))):=by
 unfold j3;rw[h];exact BK hz
theorem nU{xs:List PV}{n:Bool}{k:En->Option Fl}{Q:Fl->Prop}(ht:lv cd src (aw cap τ)=some (xs,n,false))(I:Nat->En->Prop)(h0:I 0 (aw cap τ))
  (hs:∀(i:Nat)(x:PV)(τ:En),xs[i]? =some x->I i τ->∃τ1,ib is one n x τ=some τ1/\To (al cd fu body τ1) fun f=>match f with| .nx τ2=>I (i+1) τ2| .ct τ2=>I (i+1) τ2| .bk τ2=>To (k τ2) Q| .rt v=>Q (.rt v))
  (hk:∀τ',I xs.length τ' ->To (k τ') Q):To ((de cd fu (.forr is one cap src body) τ).bind fun f=>eg f k) Q:=by
 obtain⟨fl,e,h⟩:=vJ (set:=ib is one n) (body:=fun τ=>al cd fu body τ) (xs:=xs) (τ:=aw cap τ) I (fun fl=>To (eg fl k) Q) h0 (fun i x τ hx hI=>by
  obtain⟨τ1,h1,f,h2,h3⟩:=hs i x τ hx hI;refine⟨τ1,f,h1,h2,?_⟩;cases f with
  | nx τ2=>exact h3
  | ct τ2=>exact h3
  | bk τ2=>exact h3
  | rt v=>exact⟨_,rfl,h3⟩) hk
 have e2:de cd fu (.forr is one cap src body) τ=some fl:=by
  simp only[fY,fK,fJ,fQ,fU,fH,fO,fX,fW,fZ,fV,fT,fN,fP,ht,BO];exact e
 rw[e2];exact h
end
theorem kW:∀l:List Str,imms (l.map PV.str)=true
 | []=>rfl
 | x::l=>by rw[BZ,imms,kW l];rfl
theorem jv{n:Bool}{z:Str}{k:Int}:slice (.frz (.str z) n) none (some k)=if z.length<=LN then(if 0<=k then some (sc (.str ⟨(z.cps.toList.take k.toNat).toArray⟩))else none)else none:=rfl
theorem ju{n:Bool}{z:Str}{k:Int}:slice (.frz (.str z) n) (some k) none=if z.length<=LN then(if 0<=k then some (sc (.str ⟨(z.cps.toList.drop k.toNat).toArray⟩))else none)else none:=rfl
theorem iZ{n:Bool}{xs:List PV}{lo hi:Option Int}:slice (.frz (.tup xs) n) lo hi=if HT.au xs.length 0 lo=0/\HT.au xs.length xs.length hi=xs.length then some (.frz (.tup xs) n)else some (.frz (.tup (cut xs lo hi)) n):=rfl
theorem gg(P:Nat->Option FD)(k f:Nat)(vs:List PV):aB P (k+1) f vs=(P f).bind fun d=>if vs.length=d.np then cR (al (aB P k) 1000000 d.body (entry d vs))else none:=rfl
section
variable{cd:Nat->List PV->Option PV}{fu:Nat}{τ:En}{e e2:IE}{i:Nat}
noncomputable def setO(i:Nat)(k v:PV)(m:Bool)(τ:En):Option Fl:=match k,τ[i]? with
  | .int j,some (.own xs n)=>(L2.uz xs.length j).map fun q=>.nx (τ.set i (.own (xs.set q v) (n&&m)))
  | y,some (.owd (.dK ks) xs n)=>(nK y).bind fun k=>if xs.length<LN then some (.nx (τ.set i (.owd (.dK (zz ks k)) (putL ks xs k v) (n&&m))))else none
  | _,_=>none
end
theorem jz{n i:Nat}{x:PV}(h:((List.range n).map fun i=>PV.int (0+(i:Nat)))[i]? =some x):i<n/\x=.int (i:Nat):=by
 rw[Bi]at h
 by_cases hi:i<n
 ·rw[List.getElem?_range hi]at h
  refine⟨hi,?_⟩;have:=(Bc h).symm
  simpa using this
 ·rw[List.getElem?_eq_none (by simpa using hi)]at h
  cases h
theorem me{n:Nat}:((List.range n).map fun i=>PV.int (0+(i:Nat))).length=n:=by simp
theorem nB(c d:Nat):decide ((⟨#[c]⟩:Str)=⟨#[d]⟩)=decide (c=d):=by
 by_cases h:c=d
 ·subst h;simp
 ·rw[Bh h,Bh]
  intro e;have:=B4 (fun z:Str=>z.cps.toList) e;simp at this;exact h this
theorem xk{ks:List aq}{vs:List PV}:bJ (.dK ks vs)=some ks.length:=rfl
noncomputable abbrev sy:=List (Int×Int)
noncomputable def getT(c:sy)(k:Int):Option Int:=(c.find? fun p=>decide (p.1=k)).map (·.2)
noncomputable def zy(c:sy)(k v:Int):sy:=if(c.any fun p=>decide (p.1=k))=true then c.map (fun p=>if p.1=k then(p.1,v)else p)else c++[(k,v)]
section
variable{X:Cx}{Hi:Hp}{τ:En}{cd:Nat->List PV->Option PV}{ct:Ct}{O:List Addr}{σ:L2.St}{H H' :Hp}{D:cX}
theorem rt_w(C:bG cd X ct)(hfn:X.fn=fun _=>true){n fu:Nat}{st:Stmt}{s' :IS}{v:PV}(ts:lA n ct st=s')(h:de cd fu s' τ=some (.rt v))(R:aX X.K Hi O τ σ H)(hl:σ.length=X.N.length)(q:∀u H',aA Hi H' ->Rp X.K Hi true v H' u->D.rt u H'):WS X st D σ H:=by
 subst ts;exact(yj n).s X ct Hi τ st _ C hfn h O σ H D R hl q
theorem e_w(C:bG cd X ct){n:Nat}{e:Expr}{e' :IE}{r:RV}{Q:VK}(te:aa n ct e=e')(h:aL cd e' τ=some r)(R:aX X.K Hi O τ σ H)(q:∀u H',aA H H' ->aR X.K Hi O H H' r u->Q u H'):WE X e σ H Q:=by
 subst te;exact(dO n).e X ct Hi τ e r C h O σ H Q R q
theorem rX(C:bG cd X ct){n:Nat}{c:Expr}{c' :IC}{t:Bool}{a b:List Stmt}{pos:Pos}(tc:iU n ct c=c')(ht:dC cd c' τ=some t)(R:aX X.K Hi O τ σ H)(h1:t=true->∀G,aA H G->As X a D σ G)(h0:t=false->∀G,aA H G->As X b D σ G):WS X (.If c a b pos) D σ H:=by
 refine ws (qN gq bF bF) ?_;rw[<- tc]at ht;refine(dO n).c X ct Hi τ c t C ht O σ H _ R fun G s=> ?_;cases t with
 | true=>exact kN (h1 rfl G s)
 | false=>exact kO (h0 rfl G s)
theorem aF.strs2{K:W.Frag}{n:Bool}{H:Hp}:∀{xs:List Str},aF K Hi n (xs.map PV.str) H (xs.map V.str)
 | []=>.nil
 | x::xs=>.cons (Rp.str.mpr rfl) aF.strs2
theorem du{α:Type}{l:List α}{i j:Nat}{x:α}(h:l.Nodup)(hi:l[i]? =some x)(hj:l[j]? =some x):i=j:=by
 obtain⟨a,b⟩:=BM.mp hi;obtain⟨c,d⟩:=BM.mp hj;exact(List.getElem_inj h).mp (b.trans d.symm)
end
end IR
namespace IR
open PySem
noncomputable def wq{α:Type}(l:List α)(f:α->Int):Int:=(l.map f).sum
noncomputable def cnt:List (List Nat)->List Nat->Nat->Int
 | [],_,0=>1
 | [],_,_+1=>0
 | _::rs,T,0=>cnt rs T 0
 | r::rs,T,k+1=>cnt rs T (k+1)+wq (r.filter fun c=> !T.contains c) fun c=>cnt rs (c::T) k
noncomputable def Cols(rows:List (List Nat)):Prop:=∀r∈rows,∀c∈r,c<8
noncomputable abbrev ef:=Nat×Nat
noncomputable def ye(cells:List ef)(k:Nat):List ef:=(cells.drop (k+1)).filter fun c=>decide ((cells.getD k (0,0)).1<c.1)
noncomputable def pl:Nat->List ef->List Int->Nat->Int
 | _,_,_,0=>1
 | 0,_,_,_+1=>0
 | n+1,cells,T,j+1=>wq (List.range cells.length) fun k=>if T.contains ((cells.getD k (0,0)).2:Int)then 0 else pl n (ye cells k) (T++[((cells.getD k (0,0)).2:Int)]) j
noncomputable def att(a b:ef):Bool:=a.1==b.1||a.2==b.2
noncomputable def off(x:ef)(l:List ef):List ef:=l.filter fun y=> !att x y
noncomputable def zf(f:ef->List ef->Int):List ef->Int
 | []=>0
 | x::xs=>f x xs+zf f xs
noncomputable def rk:Nat->List ef->Int
 | 0=>fun _=>1
 | k+1=>zf fun x xs=>rk k (off x xs)
noncomputable def freeC(T:List Nat)(l:List ef):List ef:=l.filter fun c=> !T.contains c.2
end IR
namespace IR
open PySem L2
noncomputable def bk(w j:Nat):Nat:=if j<w then w-1-j else j
noncomputable def ch:Nat->Nat->Nat
 | _,0=>1
 | 0,_+1=>0
 | n+1,k+1=>ch n (k+1)+ch n k
noncomputable def fl:Nat->Nat->Nat
 | _,0=>1
 | n,k+1=>n*fl (n-1) k
noncomputable def fn(m n k:Nat):Int:=((ch m k*fl n k:Nat):Int)
section
variable(b:Nat->Nat->Bool)
noncomputable def pJ:List Nat->List Nat->Nat->Int
 | [],_,j=>if j=0 then 1 else 0
 | i::L,C,j=>wq C fun c=>if b i c then(if j=0 then 0 else pJ L (C.erase c) (j-1))else pJ L (C.erase c) j
noncomputable def hcN(i:Nat)(t:List Nat):Nat:=((List.range i).filter fun l=>b l (t.getD l 0)).length
end
noncomputable def fx(x:Int):Nat->Int
 | 0=>1
 | m+1=>fx x m*(x-m)
end IR
namespace IR
end IR
namespace IR
end IR
namespace IR
open PySem L2
end IR
namespace IR
open PySem
end IR
namespace L2
open SQ
end L2
namespace OD
section
variable{α:Type}[DecidableEq α](ok:List α->α->Bool)
noncomputable def cnt:List α->List α->Nat->Nat
 | _,_,0=>1
 | _,[],_+1=>0
 | b,c::L,m+1=>(if ok b c then cnt (b++[c]) L m else 0)+cnt b L (m+1)
noncomputable def unr:List α->List α->Nat->Nat->List α
 | _,_,0,_=>[]
 | _,[],_+1,_=>[]
 | b,c::L,m+1,n=>if ok b c then(if n<cnt ok (b++[c]) L m then c::unr (b++[c]) L m n else unr b L (m+1) (n-cnt ok (b++[c]) L m))else unr b L (m+1) n
variable{ok}
variable(lt:α->α->Bool)
variable{lt}
end
end OD
namespace OD
section
variable{α:Type}[DecidableEq α]{ok:List α->α->Bool}{lt:α->α->Bool}
noncomputable def turn(ok:List α->α->Bool)(nb:List α->Int)(s:List α×Int)(c:α):List α×Int :=
 if ok s.1 c then(if s.2<nb (s.1++[c])then(s.1++[c],s.2)else(s.1,s.2-nb (s.1++[c])))else s
end
end OD
namespace IR
open PySem
noncomputable def okP(b:List (Int×Int))(c:Int×Int):Bool:=(b.all fun x=>decide (x.1<c.1))&&(b.all fun x=>decide (x.2≠c.2))
section
variable{rows:List (List Nat)}(hr:∀cs∈rows,cs.Pairwise (·<·))
end
end IR
namespace OD
section
variable{α:Type}[DecidableEq α]{ok:List α->α->Bool}
noncomputable def fs{β:Type}(f:Nat->Option β):Nat->Option β
 | 0=>none
 | n+1=>(f n).or (fs f n)
noncomputable def tr(ok:List α->α->Bool):List α->List α->List α->Nat->Option (List α)
 | _,_,[],_=>none
 | _,[],_::_,_=>none
 | b,c::L,x::p,0=>if x=c then(if 0<cnt ok b L (p.length+1)then some (unr ok b L (p.length+1) 0)else none)else tr ok b L (x::p) 0
 | b,c::L,x::p,i+1=>if x=c then(tr ok (b++[c]) L p i).map (c::·)else tr ok b L (x::p) (i+1)
end
end OD
namespace IR
open PySem
noncomputable def chR(C:List (List Int))(r:Int):List Int:=C.getD r.toNat []
noncomputable def tkL(rec:sy->Int->List Int->Bool×sy×List Int)(row:Int):List Int->sy->List Int->Bool×sy×List Int
 | [],H,T=>(false,H,T)
 | c::cs,H,T=>if T.contains c then tkL rec row cs H T else match getT H c with
  | none=>(true,zy H c row,T++[c])
  | some r=>match rec H r (T++[c])with
   | (true,H',T')=>(true,zy H' c row,T')
   | (false,H',T')=>tkL rec row cs H' T'
noncomputable def tk(C:List (List Int)):Nat->sy->Int->List Int->Bool×sy×List Int
 | 0,H,_,T=>(false,H,T)
 | n+1,H,row,T=>tkL (tk C n) row (chR C row) H T
noncomputable def hd(C:List (List Int)):Nat->sy
 | 0=>[]
 | k+1=>(tk C 9 (hd C k) (k:Nat) []).2.1
section
variable{C:List (List Int)}{H:sy}{n k:Nat}{R Q:List Int}
end
section
variable{rows:List (List Nat)}(hc:Cols rows)(hr:∀cs∈rows,cs.Pairwise (·<·))
include hr
end
theorem fq:∀rows:List Str,dG (rows.map PV.str)=some rows:=by
 intro r
 induction r with
 | nil=>rfl
 | cons z r ih=>rw[BZ,dG,ih];rfl
noncomputable def hJ(rows:List Str):Bool:=decide (1<=rows.length)&&decide (rows.length<=8)&&rows.all (fun z=>decide (z.length=(rows.headD "").length)&&z.cps.toList.all fun c=>c==120||c==46)&&decide (1<=(rows.headD "").length)&&decide ((rows.headD "").length<=8)
theorem fh{rows:List Str}:hJ rows=true↔UM.aU 8 rows:=by
 unfold hJ;simp only[BB,Cj,Bl,CH,B7]
 constructor
 ·rintro⟨⟨⟨⟨h1,h2⟩,h3⟩,h4⟩,h5⟩
  exact⟨fun z=>by rw[z]at h1;exact absurd h1 (by decide),h2,⟨_,h4,h5,fun z hz=>(h3 z hz).1⟩,fun z hz c hc=>(h3 z hz).2 c hc⟩
 ·intro b
  obtain⟨w,w1,w2,hw⟩:=b.wide;have e:(rows.headD "").length=w:=by
   cases rows with
   | nil=>exact absurd rfl b.some
   | cons y r=>exact hw y BN
  rw[e];refine⟨⟨⟨⟨?_,b.few⟩,fun z hz=>⟨hw z hz,fun c hc=>b.signs z hz c hc⟩⟩,w1⟩,w2⟩;cases rows with
  | nil=>exact absurd rfl b.some
  | cons y r=>exact Nat.succ_le_succ (Be _)
noncomputable def clsB:Stmt->Nat->Stmt
 | .ClassDef _ _ _ body _ _ _ _ _ _ _,i=>body.getD i (.Pass ⟨0,0,0,0⟩)
 | s,_=>s
noncomputable abbrev NL:Str:=⟨#[10]⟩
noncomputable def jx:List PV->Option PV
 | [.str z]=>if z.length<=1000/\hJ (Txt.split z NL)=true then some (.tup ((Txt.split z NL).map .str))else none
 | _=>none
noncomputable def iG:PV->Bool
 | .str z=>decide (z.length<=1000)&& !hJ (Txt.split z NL)
 | .dT _ _=>false
 | _=>true
noncomputable def mf:List PV->Option PV
 | [v]=>if iG v=true then some (.bl true)else none
 | _=>none
noncomputable def Ab:List PV->Option PV
 | [.int _]=>some (.bl true)
 | _=>none
theorem qG{vs:List PV}{r:PV}(h:jx vs=some r):∃z rows,vs=[.str z]/\z.length<=1000/\Txt.split z NL=rows/\UM.aU 8 rows/\r=.tup (rows.map .str):=by
 unfold jx at h
 split at h
 ·rename_i z
  split at h
  ·rename_i hc
   cases h;exact⟨z,_,rfl,hc.1,rfl,fh.mp hc.2,rfl⟩
  ·cases h
 ·cases h
theorem uI{rows:List Str}(b:UM.aU 8 rows)(hl:(Str.join NL rows).length<=1000):jx [.str (Str.join NL rows)]=some (.tup (rows.map .str)):=by
 have e:=UM.fz (c:=10) b.some b.free;show(if(Str.join NL rows).length<=1000/\hJ (Txt.split (Str.join NL rows) NL)=true then some (PV.tup ((Txt.split (Str.join NL rows) NL).map .str))else none)=_;rw[show Txt.split (Str.join NL rows) NL=rows from e,BK ⟨hl,fh.mpr b⟩]
theorem qF{vs:List PV}{r:PV}(h:mf vs=some r):r=.bl true/\∃v,vs=[v]/\iG v=true:=by
 unfold mf at h
 split at h
 ·split at h
  ·rename_i hc
   cases h;exact⟨rfl,_,rfl,hc⟩
  ·cases h
 ·cases h
theorem uH{v:PV}(h:iG v=true):mf [v]=some (.bl true):=BK h
theorem rG{parts:List Str}(h0:parts≠[])(hf:∀p∈parts,10∉p.cps.toList)(hl:(Str.join NL parts).length<=1000)(nb:¬UM.aU 8 parts):iG (.str (Str.join NL parts))=true:=by
 have e:=UM.fz (c:=10) h0 hf;show(decide ((Str.join NL parts).length<=1000)&& !hJ (Txt.split (Str.join NL parts) NL))=true;rw[show Txt.split (Str.join NL parts) NL=parts from e,CB hl,Bool.true_and,Ck,Bx];exact fun z=>nb (fh.mp z)
theorem bV(a b c:Str):a++b++c=a++(b++c):=by
 show(⟨a.cps++b.cps++c.cps⟩:Str)=⟨a.cps++(b.cps++c.cps)⟩;rw[Array.append_assoc]
theorem dB(y:Str):∀{rows:List Str},rows≠[]->Str.join NL (rows++[y])=Str.join NL rows++NL++y
 | [],h=>absurd rfl h
 | [x],_=>rfl
 | x::x2::r,_=>by
  show x++NL++Str.join NL ((x2::r)++[y])=x++NL++Str.join NL (x2::r)++NL++y;rw[dB y (by simp)];simp only[bV]
theorem gP(y:Str){rows:List Str}(h:rows≠[]):Str.join NL (y::rows)=y++NL++Str.join NL rows:=by
 cases rows with
 | nil=>exact absurd rfl h
 | cons x r=>rfl
theorem iK(s:Str):∀{rows:List Str}(h:rows≠[]),Str.join NL rows++s=Str.join NL (rows.dropLast++[rows.getLast h++s])
 | [],h=>absurd rfl h
 | [x],_=>rfl
 | x::x2::r,_=>by
  have ih:=iK s (rows:=x2::r) (by simp);show x++NL++Str.join NL (x2::r)++s=Str.join NL (x::((x2::r).dropLast++[(x2::r).getLast _++s]));rw[bV,ih,gP _ (by simp)]
theorem oY(s x:Str):∀(r:List Str),s++Str.join NL (x::r)=Str.join NL ((s++x)::r)
 | []=>rfl
 | x2::r=>by
  show s++(x++NL++Str.join NL (x2::r))=s++x++NL++Str.join NL (x2::r);simp only[bV]
theorem iJ(y:Str){rows:List Str}(h:rows≠[]):∀k:Nat,Str.join NL (rows++List.replicate k y)=(List.replicate k (NL++y)).foldl (·++·) (Str.join NL rows)
 | 0=>by rw[List.replicate_zero,Bz];rfl
 | k+1=>by
  rw[List.replicate_succ',<-List.append_assoc,dB y (by simp[h]),iJ y h k,List.replicate_succ',List.foldl_append,bV];rfl
theorem cJ{m:Nat}:∀{parts:List Str},(∀p∈parts,p.length<=m)->(Str.join NL parts).length<=parts.length*(m+1)
 | [],_=>Be _
 | [x],h=>by
  have:=h x (by simp);show x.length<=_;simp;omega
 | x::x2::r,h=>by
  have ih:=cJ (parts:=x2::r) fun p hp=>h p (BF _ hp);have:=h x (by simp);have e:(Str.join NL (x::x2::r)).length=x.length+1+(Str.join NL (x2::r)).length:=by
   show(x++NL++Str.join NL (x2::r)).length=_;rw[BQ,BQ];rfl
  rw[e,BS,Nat.succ_mul];omega
end IR
namespace XE
open PySem
noncomputable abbrev fr(l:List Env):List Addr:=l.filterMap (·.frame)
noncomputable def tT(h:Heap)(e T:Addr)(cls:Value)(dd:Option Addr)(fl:Value):Prop :=
 ∃oe vs oT ts,h.get? e=some oe/\oe.cls=cls/\oe.dict=dd/\oe.data=.fields vs/\vs[1]? =some (.ref T)/\T≠e/\h.get? T=some oT/\oT.data=.fields ts/\ts[3]? =some fl
structure Up(fs ns:List Addr)(h h' :Heap):Prop where
 keep:∀b o,h.get? b=some o->b∉fs->b∉ns->h'.get? b=some o
 slot:∀b o,h.get? b=some o->b∈fs->∃sl,h'.get? b=some {o with slots:=sl}
theorem sQ(o:Obj)(f:Array Value->Array Value):(Obj.mapFields f o).dict=o.dict:=by
 unfold Obj.mapFields
 split<;>rfl
section
variable{M:Model}{A:Around}{E:Value->Shared->Prop}{s:Shared}{base:Heap}{env:Env}{outer:List Env}{L e T:Addr}{cls fl:Value}{dd:Option Addr}{Q:Unit->Shared->Prop}{oe:Obj}{vs:Array Value}
theorem kj{head:Value}{nx:Bool}(hfr:A.frames=some (env::outer))(fl:s.heap.FunFrames base (env::outer))(hf:env.frame=some L)(he:s.heap.get? e=some oe)(hd:oe.data=.fields vs)(hz:1<vs.size)
  (h:∀h' T,Up (fr (env::outer)) [e] s.heap h' ->s.heap.get? T=none->tT h' e T oe.cls oe.dict (rawInt L)->Q () {s with heap:=h'}) :
  wpAny M A (do let a<-frameOf env;let pl<-entryPlaceOf L nx;let b<-EntryCells.newEntry head a .none (rawInt L) .none pl;setField (.ref e) 1 b) Q E s:=by
 have ne:e∉fr (env::outer):=fun m=>by
  obtain⟨_,o,ho,hn⟩:=fl.mem m;rw[he]at ho;cases ho;exact hn vs hd
 refine A8 (wpAny_frameOf_fun hfr fl hf fun k1 sk=> ?_);refine A8 (wpAny_entryPlaceOf fun pl isp=> ?_);unfold EntryCells.newEntry newFields;refine A8 (Cb ?_ (isp.sizeOk5 _ _ _ _ _));have he1:k1.get? e=some oe:=(sk.2.1 e ne).trans he;have ht:k1.objs.size≠e:=C7 (BE he1)
 generalize hob:({cls:=.type "traceback",dict:=none,data:=.fields ([head,.ref L,.none,rawInt L,.none]++(if pl.isEmpty then List.replicate 6 Value.none else pl)).toArray}:Obj)=ob
 have he2:=BA (h:=k1) ob he1;refine wpAny_setField he2 hd hz ?_;have hd3:=Obj.data_mapFields hd (·.setIfInBounds 1 (Value.ref k1.objs.size));have kp:∀b o,b≠e->k1.get? b=some o->((k1.push ob).update e (Obj.mapFields (·.setIfInBounds 1 (Value.ref k1.objs.size)))).get? b=some o:=fun b o nb q=>by
  rw[By _ _ (CQ nb)];exact BA _ q
 refine h _ k1.objs.size ⟨fun b o q n1 n2=>kp b o (fun z=>n2 (by rw[z];exact Bp.mpr rfl)) ((sk.2.1 b n1).trans q),fun b o q m=> ?_⟩ ?_ ?_
 ·obtain⟨sl,q1⟩:=sk.2.2 b o q
  exact⟨sl,kp b _ (fun z=>ne (by rw[<- z];exact m)) q1⟩
 ·cases q:s.heap.get? k1.objs.size with
  | none=>rfl
  | some o =>
   obtain⟨sl,q1⟩:=sk.2.2 _ o q;exact absurd (BE q1) (CA _)
 ·refine⟨_,_,ob,_,C3 _ he2 (Obj.isFreed_of_fields hd3),Obj.cls_mapFields _ _,sQ _ _,hd3,by simp[hz],ht,?_,by rw[<- hob],?_⟩
  ·rw[By _ _ (CQ ht)]
   exact BR k1 (by rw[<- hob];rfl)
  ·rcases isp with rfl|⟨_,_,_,_,_,_,_,rfl⟩<;>simp
theorem land(ht:tT s.heap e T cls dd fl)(h:∀h',(∀b o,s.heap.get? b=some o->b≠T->h'.get? b=some o)->tT h' e T cls dd .none->Q () {s with heap:=h'}):wpAny M A (setFlight (.ref e) none) Q E s:=by
 obtain⟨oe,vs,oT,ts,e1,e2,e3,e4,e5,e6,e7,e8,e9⟩:=ht;unfold setFlight;refine A8 (C9 e1 e4 e5 ?_);rw[BK (show(Value.ref T !=Value.none)=true by simp)];have h3:3<ts.size:=(CW.mp e9).1;have d3:=Obj.data_mapFields e8 (·.setIfInBounds 3 ((none:Option Addr).elim Value.none fun f=>rawInt f));refine wpAny_setField e7 e8 h3 (h _ (fun b o q n=> ?_) ⟨oe,vs,_,_,?_,e2,e3,e4,e5,e6,C3 _ e7 (Obj.isFreed_of_fields d3),d3,by simp[h3]⟩)
 ·rw[By _ _ (CQ n)]
  exact q
 ·rw[By _ _ e6]
  exact e1
theorem lX(hfr:A.frames=some (env::outer))(hl:s.heap.FunFrames base (env::outer))(hf:env.frame=some L)(he:s.heap.get? e=some oe)(hd:oe.data=.fields vs)(h1:vs[1]? =some .none)
  (h:∀h' T,Up (fr (env::outer)) [e] s.heap h' ->s.heap.get? T=none->tT h' e T oe.cls oe.dict (rawInt L)->Q () {s with heap:=h'}):wpAny M A (noteFrame (.ref e) env) Q E s:=by
 unfold noteFrame;simp only[hf];refine A8 (C9 he hd h1 ?_);rw[BI (by decide)];exact kj hfr hl hf he hd (CW.mp h1).1 h
theorem oP(hfr:A.frames=some (env::outer))(hl:s.heap.FunFrames base (env::outer))(hf:env.frame=some L)(ht:tT s.heap e T cls dd .none)
  (h:∀h' T',Up (fr (env::outer)) [e,T] s.heap h' ->s.heap.get? T' =none->tT h' e T' cls dd (rawInt L)->Q () {s with heap:=h'}):wpAny M A (noteFrame (.ref e) env) Q E s:=by
 obtain⟨oe,vs,oT,ts,e1,e2,e3,e4,e5,e6,e7,e8,e9⟩:=ht;unfold noteFrame;simp only[hf];refine A8 (C9 e1 e4 e5 ?_);rw[BK (show(Value.ref T !=Value.none)=true by simp)];refine A8 (C9 e7 e8 e9 ?_);rw[BI (show¬((Value.none==rawInt L)=true)by simp[rawInt])];have nf:∀b∈fr (env::outer),b≠T:=fun b m z=>by
  obtain⟨_,o,ho,hn⟩:=hl.mem m;rw[z,e7]at ho;cases ho;exact hn ts e8
 refine A8 (wpAny_setField e7 e8 (CW.mp e9).1 ?_);have ot:∀b,b≠T->(s.heap.update T (Obj.mapFields (·.setIfInBounds 3 Value.none))).get? b=s.heap.get? b:=fun b n=>By _ _ (CQ n);refine kj (s:={s with heap:=s.heap.update T (Obj.mapFields (·.setIfInBounds 3 Value.none))}) (base:=base) hfr (hl.of_keeps fun b o q n=>⟨o,?_,rfl⟩) hf ((ot e (CQ e6)).trans e1) e4 (CW.mp e5).1 fun h' T' u n f=> ?_
 ·rw[ot b fun z=>by rw[z,e7]at q;cases q;exact n ts e8]
  exact q
 ·have nT:T' ≠T:=fun z=>by
   rw[z]at n;rw[show(Shared.heap {s with heap:=s.heap.update T (Obj.mapFields (·.setIfInBounds 3 Value.none))}).get? T=_ from C3 _ e7 (Obj.isFreed_of_fields (Obj.data_mapFields e8 _))]at n;cases n
  refine h h' T' ⟨fun b o q n1 n2=>u.keep b o ?_ n1 ?_,fun b o q m=>u.slot b o ?_ m⟩ ?_ (by rw[<- e2,<-e3];exact f)
  ·exact(ot b fun z=>n2 (by rw[z];simp)).trans q
  ·exact fun z=>n2 (by rw[Bp.mp z];simp)
  ·exact(ot b (nf b m)).trans q
  ·exact(ot T' nT).symm.trans n
theorem Up.land{fs ns:List Addr}{h h1 h2:Heap}(u:Up fs ns h h1)(n:h.get? T=none)(k:∀b o,h1.get? b=some o->b≠T->h2.get? b=some o):Up fs ns h h2 :=
 ⟨fun b o q n1 n2=>k b o (u.keep b o q n1 n2) (fun z=>by rw[z,n]at q;cases q),fun b o q m=>by
  obtain⟨sl,q1⟩:=u.slot b o q m;exact⟨sl,k b _ q1 (fun z=>by rw[z,n]at q;cases q)⟩⟩
theorem kL(hfr:A.frames=some (env::outer))(hl:s.heap.FunFrames base (env::outer))(hf:env.frame=some L)(he:s.heap.get? e=some oe)(hd:oe.data=.fields vs)(h1:vs[1]? =some .none)
  (h:∀h' T,Up (fr (env::outer)) [e] s.heap h' ->s.heap.get? T=none->tT h' e T oe.cls oe.dict .none->Q () {s with heap:=h'}):wpAny M A (leaving env (.ref e)) Q E s:=by
 unfold leaving;refine A8 (lX hfr hl hf he hd h1 fun k1 T u n f=> ?_);exact land (s:={s with heap:=k1}) f fun k2 k f2=>h k2 T (u.land n k) n f2
theorem ul(hfr:A.frames=some (env::outer))(hl:s.heap.FunFrames base (env::outer))(hf:env.frame=some L)(ht:tT s.heap e T cls dd .none)
  (h:∀h' T',Up (fr (env::outer)) [e,T] s.heap h' ->s.heap.get? T' =none->tT h' e T' cls dd .none->Q () {s with heap:=h'}) :
  wpAny M A (noteFrame (.ref e) env) (fun _ s2=>wpAny M A (setFlight (.ref e) none) Q E s2) E s:=by
 refine oP hfr hl hf ht fun k1 T' u n f=> ?_;exact land (s:={s with heap:=k1}) f fun k2 k f2=>h k2 T' (u.land n k) n f2
end
end XE
namespace XE
open PySem PySem.W PyProof.Rows
structure XC(K:Frag)(C:Addr):Prop where
 ga:findIn K (.ref C) "__getattribute__"=some (some (.builtin "BaseException.__getattribute__"))
 gn:findIn K (.ref C) "__getattr__"=some none
 ca:findIn K (.ref C) "__class__"=some (some (.builtin "object.__class__"))
 sg:specialIn K (.builtin "object.__class__") "__get__"=some (some (.builtin "getset_descriptor.__get__"))
 tk:takesIn K (.builtin "object.__class__")=some true
 ob:mroIn K C (.type "object")=some true
 be:mroIn K C (.type "BaseException")=some true
 cl:(clsIn K C).isSome=true
section
variable{prog:Program}{w:World}{A:Around}{E:Value->Shared->Prop}{s:Shared}{K:Frag}{e C:Addr}{ox:Obj}{od:Option Obj}
theorem XC.find(c:XC K C):findObj K C od "__class__"=some (.bind (.builtin "getset_descriptor.__get__") (.builtin "object.__class__")):=by
 obtain⟨cd,hc⟩:=CJ.mp c.cl;unfold findObj;rw[hc,BO,c.ca,BO];simp[c.sg,c.tk]
theorem kY{M:Model}{nameV:Value}{Q:Unit->Shared->Prop}(c:XC K C)(X:K.In s.heap)(I:InstAt s.heap e ox C od)(hq:Q () s):wpAny M A (checkBuiltinCall "BaseException.__getattribute__" ⟨[.ref e,nameV],[]⟩) Q E s:=by
 obtain⟨hh,g,d,t,os⟩:=s;have q0:=I.type (M:=M);have q4:=looks_mroIn (M:=M) X c.be;have kk:builtinKind "BaseException.__getattribute__"=some .slot:=by decide +kernel
 have hsp:splitId "BaseException.__getattribute__"=some ("BaseException","__getattribute__"):=by decide +kernel
 have ha:=F.args_bexc_ga (.ref e) nameV;simp only[checkBuiltinCall,kk,hsp];refine A8 ?_;unfold isInstance
 repeat lk
 exact hq
theorem sd{Q:Option Value->Shared->Prop}(c:XC K C)(X:K.In s.heap)(I:InstAt s.heap e ox C od)(h:Q (some (.ref C)) {s with toks:=s.toks+1}) :
  wpAny (model prog w) A (getAttr? (.ref e) "__class__") Q E s:=by
 obtain⟨hh,g,d,t,os⟩:=s;have q0:=I.type (M:=model prog w);have q1:=looks_findIn (M:=model prog w) X c.ga;have q2:=looks_findIn (M:=model prog w) X c.gn;have q3:=looks_find (M:=model prog w) X I c.find;have q4:=looks_mroIn (M:=model prog w) X c.be;unfold getAttr? getAttrBy? getAttrBy;refine A8 (wpAny_mkText (A8 (wpAny_attempt (B2 (A8 (q0.at (A8 (q1.at ?_))))))));show wpAny _ _ (getAttrByItsOwn _ _ _ _ _ _) _ _ _;unfold getAttrByItsOwn hookBefore;refine A8 ?_;show wpAny _ _ (typeLookup _ _) _ _ _;refine q2.at ?_;refine A8 (wpAny_attempt (B2 ?_));show wpAny _ _ (boundAndCalled _ _ _) _ _ _;unfold boundAndCalled;rw[F.attr_ValueError.ga.bind (.ref e)];refine A8 (BG ?_);refine C6 (codeAny_call_builtin F.attr_ValueError.ga.plain F.entry_bexc_ga (kY c X I ?_));unfold Builtin.«object.__getattribute__»;refine A8 (BG ?_);refine A8 (BG ?_);refine A8 (q0.at ?_);refine A8 (q3.at ?_);show wpAny _ _ (holding [_] (call _ [_,_,_]) >>= ret) _ _ _;refine A8 (B2 (C6 (class_get (ox:=ox) (od:=od) X I c.ob ?_)));exact BG (BG (BG h))
theorem kitx{K:Frag}{e C:Addr}(c:XC K C):KitX K (.ref e) (.ref C) (fun h=>∃ox od,W.InstAt h e ox C od) where
 ty:=fun _ _ _ ⟨_,_,I⟩=>I.type
 it:=fun _ _ X _=>by
  obtain⟨cd,hc⟩:=CJ.mp c.cl;unfold clsIn at hc
  split at hc
  ·rename_i ho
   exact fun A' Q' E' s' k q=>A8 (wpAny_loadPart (k _ _ (X _ _ ho)) (BG q))
  ·cases hc
 ne:=fun h tp dd its n sl X htp=>by
  obtain⟨cd,hc⟩:=CJ.mp c.cl;refine Bx.mpr fun q=> ?_;have z:C=tp:=Value.ref.inj (B7.mp q);subst z;unfold clsIn at hc
  split at hc
  ·rename_i ho
   have z:=(X _ _ ho).symm.trans htp;cases z
  ·cases hc
 ca:=fun X ⟨_,_,I⟩ k=>sd c X I k
end
end XE
namespace L2.XN
open PySem PySem.Spec PyProof.Rows L2 XE
section
variable{P:Program}{w:World}{H H' :Hp}{h h' h2:Heap}{a:Addr}{o:HO}{fs ns:List Addr}
theorem iF(x:aY P w H h a o):∃u,h.get? a=some u:=by
 cases o with
 | lst xs=>obtain⟨_,_,_,_,e⟩:=x;exact⟨_,e⟩
 | tup xs=>obtain⟨_,_,_,ob,e,_⟩:=x;exact⟨_,e⟩
 | dK kvs=>obtain⟨_,_,_,_,ob,_,_,e,_⟩:=x;exact⟨_,e⟩
 | dT kvs=>obtain⟨_,_,_,_,ob,_,_,e,_⟩:=x;exact⟨_,e⟩
 | set S n=>obtain⟨ob,_,_,_,e,_⟩:=x;exact⟨_,e⟩
 | ins C dx fs=>obtain⟨_,_,_,e,_⟩:=x;exact⟨_,e⟩
 | own y=>exact x
 | xd fs=>obtain⟨_,⟨_,_,_,e,_⟩,_⟩:=x;exact⟨_,e⟩
 | rng lo hi=>obtain⟨_,_,_,e⟩:=x;exact⟨_,e⟩
 | frz ob u=>obtain⟨e,_⟩:=x;exact⟨_,e⟩
 | tbl ps=>exact⟨_,(show h.get? a=some _ from x)⟩
 | met f y=>exact⟨_,(show h.get? a=some _ from x)⟩
 | ext φ=>obtain⟨_,e,_⟩:=x;exact e
theorem gR(ok:cS P w H h)(e:h.get? a=none):H a=none:=by
 cases q:H a with
 | none=>rfl
 | some u =>
  obtain⟨v,hv⟩:=iF (ok a u q);rw[e]at hv;cases hv
theorem ll(ok:cS P w H h)(u:Up fs ns h h')(hf:∀b∈fs,H b=none)(hn:∀b∈ns,H b=none):cS P w H h' :=fun a o e =>
 (ok a o e).stay (fun b v hb q=>u.keep b v q (fun z=>by
  rcases hb with r|r
  ·rw[r]at z;rw[hf _ z]at e;cases e
  ·rw[hf _ z]at r;cases r) fun z=>by
  rcases hb with r|r
  ·rw[r]at z;rw[hn _ z]at e;cases e
  ·rw[hn _ z]at r;cases r) (fun _ q=>q) fun _ _ q=>q
theorem zN{H0:Hp}{h0 h1:Heap}{L:Addr}(u:Un fs [] H0 H h0 h1)(p:Up (L::fs) ns h1 h2)(hL:h0.objs.size<=L)(hn:∀b∈ns,h0.get? b=none):Un fs [] H0 H h0 h2:=by
 have nL:∀b o,h0.get? b=some o->b≠L:=fun b o q z=>absurd (BE q) (by rw[z];exact Nat.not_lt.mpr hL);have nn:∀b o,h0.get? b=some o->b∉ns:=fun b o q z=>by rw[hn b z]at q;cases q
 refine⟨fun b o q n hb hx=>p.keep b o (u.keep b o q n hb hx) (fun z=> ?_) (nn b o q),fun b o q n hb hx=> ?_,u.free,fun b o q hx=> ?_,u.tups,u.frzs,u.tbls⟩
 ·rcases BP.mp z with r|r
  ·exact nL b o q r
  ·exact hb r
 ·obtain⟨sl,e1⟩:=u.slot b o q n hb hx
  obtain⟨sl2,e2⟩:=p.slot b _ e1 (BF _ hb);exact⟨sl2,e2⟩
 ·obtain⟨o1,e1⟩:=u.there b o q hx
  by_cases hb:b∈L::fs
  ·obtain⟨sl,e2⟩:=p.slot b _ e1 hb
   exact⟨_,e2⟩
  ·exact⟨_,p.keep b _ e1 hb (nn b o q)⟩
end
noncomputable def wQ(P:Program)(w:World)(C:Addr):k8:=fun outer H s E u s' =>
 ∃e T H' dd,u=.ref e/\s'.os=s.os/\AllBare s'.gens/\Un (lC outer) [] H H' s.heap s'.heap/\cS P w H' s'.heap/\s.heap.get? e=none/\s.heap.get? T=none/\H' e=none/\H' T=none /\
  tT s'.heap e T (.ref C) dd .none/\E (.ref C) dd H'
section
variable{P:Program}{w:World}{K:W.Frag}{mg:Str->Option Value}{base:Heap}{N:List Str}{qual:Str}{scope:Scope}{f C:Addr}{cd:Value}{A:Around}{outer:List Env}{s s1:Shared}{H H1:Hp}{E:XK}
 {pins:List (Addr×Obj)} {σ:St}
theorem oB{args:List Value}{h' :Heap}{e:Addr}(I:Inv (cV (wQ P w C) P w K mg base N qual scope f cd A outer s H E) pins σ H1 s1)(mk:Heap.MadeExcOf s1.heap h' e (.ref C) args)(q:E (.ref C) none H1) :
  (cV (wQ P w C) P w K mg base N qual scope f cd A outer s H E).xe (.ref e) {s1 with heap:=h'}:=by
 have J:Inv (cV (wQ P w C) P w K mg base N qual scope f cd A outer s H E) pins σ H1 {s1 with heap:=h'} :=
  I.call' (ch:=[]) rfl (Un.kept mk.keeps) (I.hok.kept mk.keeps) I.bare (fun b z=>absurd z (by simp))
 obtain⟨t,he,-,-⟩:=mk.there;have n1:s.heap.get? e=none:=by
  cases q:s.heap.get? e with
  | none=>rfl
  | some o =>
   obtain⟨o',z⟩:=I.base.there e o q (CM);rw[mk.new]at z;cases z
 have n2:H1 e=none:=gR I.hok mk.new;refine kL (s:={s1 with heap:=h'}) (base:=base) J.ok.frames J.stack rfl he rfl rfl fun h2 T up hT fly=> ?_;refine⟨e,T,H1,none,rfl,J.os,J.bare,zN J.base up J.ok.above (fun b m=>by rw[Bp.mp m];exact n1),ll J.hok up J.stkFree (fun b m=>by rw[Bp.mp m];exact n2),n1,?_,n2,gR J.hok hT,fly,q⟩;cases q:s.heap.get? T with
 | none=>rfl
 | some o =>
  obtain⟨o',z⟩:=J.base.there T o q (CM);rw[hT]at z;cases z
end
noncomputable def pd(E:XK)(C:Addr):TS:=fun _ _ H=>E (.ref C) none H
theorem oC{X:Cx}{x:Str}{C:Addr}{bm bmN:List Value}{newId nid initId inN B Bn:String}{np cpos pos:Pos}{E:XK}(O:OwnCls x C bm newId X.mg X.base)(Fn:ExcBaseFacts Bn newId inN bmN)(hBn:bm.contains (.type Bn)=true)
  (FB:ExcBaseFacts B nid initId bm) (hc:X.calm=true) (hg:Gl X x)
  (hx:∀pins σ H s h' e,Inv X pins σ H s->Heap.MadeExcOf s.heap h' e (.ref C) []->E (.ref C) none H->X.xe (.ref e) {s with heap:=h'}) (hd:(x==("__debug__":Str))=false:=by decide) :
  PS X (.Raise (some (.Call (.Name x np) [] [] cpos)) none pos) (pd E C):=by
 intro pins s σ H D I q;obtain⟨tl,N,nm,qn,bs,hdct,sn,sub,ab,col,dd,k0,k1,k2,k3,k5,mN,hC,hN,hni,T⟩:=O.obj
 refine wpAny_Raise_call_subU (C:=C) (nm:=nm) (q:=qn) (N:=N) (bs:=bs) (bm:=tl) (hdct:=hdct) (sn:=sn) (sub:=sub) (ab:=ab) (col:=col) (dd:=dd) (k0:=k0) (k1:=k1) (k2:=k2) (k3:=k3) (k5:=k5)
  Fn hBn FB (mN:=mN) (T.hasType FB.hasBase) (I.ok.hd hc) rfl hni (bU I hg O.bound ⟨rfl,?_⟩ hd)
 exact evalArgs_empty ⟨rfl,Be _,I.bk _ _ hC,hN.keeps I.bk,T.keeps I.bk,fun h' e m=>hx pins σ H s h' e I m q⟩
end L2.XN
namespace L2.XN
open PySem PySem.Spec PyProof.Rows L2 XE
section
variable{X:Cx}{pins:List (Addr×Obj)}{σ:St}{H:Hp}{s:Shared}{Wh:Value->Shared->Prop}{A:Around}{cm:Bool}
noncomputable abbrev qR(X:Cx)(pn:List (Addr×Obj))(Wh:Value->Shared->Prop):Cx:={X with pn:=pn,xe:=Wh}
noncomputable abbrev yA(X:Cx)(e:Addr)(pn:List (Addr×Obj)):Cx:={X with A:=X.A.mark (some (.ref e)),calm:=false,pn:=pn,xe:=fun _ _=>False}
theorem pinned(I:Inv X pins σ H s):Inv (qR X (X.pn++pins) Wh) [] σ H s :=
 ⟨⟨I.ok.mod,I.ok.kind,I.ok.glob,I.ok.blt,I.ok.above,I.ok.inj,I.ok.has,I.ok.cab,I.ok.hd,I.ok.frames,I.ok.stk,I.ok.exf,I.ok.bs,I.ok.bsz,I.ok.noex,I.ok.exfs,I.ok.funs,I.ok.frf⟩,I.os,I.bare,I.base,I.loc,I.cell,I.free,I.freeC,
  fun p hp=>I.pin p (by rw[Bz]at hp;exact hp),I.hok,I.len⟩
theorem unpinned{p2:List (Addr×Obj)}(ok:X.Ok)(I:Inv (qR X (X.pn++pins) Wh) p2 σ H s):Inv X pins σ H s :=
 ⟨ok,I.os,I.bare,I.base,I.loc,I.cell,I.free,I.freeC,fun p hp=>I.pin p (Cw _ hp),I.hok,I.len⟩
theorem AU(I:Inv X pins σ H s){e:Addr}{pn:List (Addr×Obj)}(hp:∀p∈pn,s.heap.get? p.1=some p.2/\H p.1=none/\p.1≠X.env.locals/\p.1∉X.fs/\∀v,p.2.data≠.cell v):Inv (yA X e pn) [] σ H s :=
 ⟨⟨I.ok.mod,I.ok.kind,I.ok.glob,I.ok.blt,I.ok.above,I.ok.inj,I.ok.has,I.ok.cab,(fun z=>by cases z),I.ok.frames,I.ok.stk,I.ok.exf,I.ok.bs,I.ok.bsz,I.ok.noex,I.ok.exfs,I.ok.funs,I.ok.frf⟩,I.os,I.bare,I.base,I.loc,I.cell,I.free,I.freeC,
  fun p m=>hp p (by rw[Bz]at m;exact m),I.hok,I.len⟩
theorem AD(ok:X.Ok){e:Addr}{pn:List (Addr×Obj)}(I:Inv (yA X e pn) [] σ H s)(hp:∀p∈X.pn++pins,p∈pn):Inv X pins σ H s :=
 ⟨ok,I.os,I.bare,I.base,I.loc,I.cell,I.free,I.freeC,fun p m=>I.pin p (Cw _ (hp p m)),I.hok,I.len⟩
theorem yU{M:Model}{A:Around}{E:Value->Shared->Prop}{i:Nat}{x:Str}{v:V}{Q:Unit->Shared->Prop}(I:Inv X pins σ H s)(hN:X.N.Nodup)(hi:X.N[i]? =some x)(hk:X.env.scope.names.lookup x=some .local)(hv:σ[i]? =some (some v))
  (h:∀s',Inv X pins (σ.set i none) H s' ->Q () s'):wpAny M A (unbindName X.env x) Q E s:=by
 obtain⟨m,hn,hl⟩:=id I.loc;obtain⟨u,-,l⟩:=hl i x v hi hv (.inl hk);have hm:m x=some u:=by
  rcases l with l|⟨k,_⟩
  ·exact l.2
  ·have k' :X.env.scope.names.lookup x=some .cell\/X.env.scope.names.lookup x=some .free:=k
   rw[hk]at k'
   rcases k' with z|z<;>cases z
 obtain⟨oL,_,_,hoL,_⟩:=id hn;refine wpAny_unbindName_local hk hn hm (by rw[I.ok.kind];rfl) fun h' u' hn' hs=> ?_;have lo:∀b o,X.s₀.heap.get? b=some o->b≠X.env.locals:=fun b o e=>BX (BV (BE e) I.ok.above)
 refine h _ ⟨I.ok,I.os,I.bare,⟨fun b o e n hb hx=>(hs.2 b (lo b o e)).trans (I.base.keep b o e n hb hx),fun b o e n hb hx=> ?_,I.base.free,fun b o e hx=> ?_,I.base.tups,I.base.frzs,I.base.tbls⟩,
  ⟨_,hn',fun j y v' e1 e2 e3=> ?_⟩,fun y c e=> ?_,I.free,I.freeC,fun p hp=> ?_,fun b ob e=> ?_,by simpa using I.len⟩
 ·obtain⟨sl,q⟩:=I.base.slot b o e n hb hx
  exact⟨sl,(hs.2 b (lo b o e)).trans q⟩
 ·obtain⟨o',q⟩:=I.base.there b o e hx
  exact⟨o',(hs.2 b (lo b o e)).trans q⟩
 ·by_cases hj:j=i
  ·subst hj
   rw[Bv (by rw[I.len];exact(BM.mp hi).1)]at e2;cases e2
  ·rw[Bg (CQ hj)]at e2
   obtain⟨w1,r1,q⟩:=hl j y v' e1 e2 e3;refine⟨w1,r1,?_⟩
   rcases q with⟨k,q⟩|⟨k,c,q,z⟩
   ·have ny:y≠x:=fun z=>hj (du hN e1 (z▸hi))
    exact .inl ⟨k,by simp[ny,q]⟩
   ·exact .inr ⟨k,c,q,z.sameBut hs (I.cne y c q)⟩
 ·obtain⟨w1,z⟩:=I.cell y c e
  exact⟨w1,z.sameBut hs (I.cne y c e)⟩
 ·obtain⟨q,n,ne,nf,d⟩:=I.pin p hp
  exact⟨(hs.2 p.1 ne).trans q,n,ne,nf,d⟩
 ·refine(I.hok b ob e).stay (fun c w1 hc q=>(hs.2 c fun z=> ?_).trans q) (fun _ q=>q) fun _ _ q=>q
  rcases hc with r|r
  ·rw[r]at z;rw[z,I.free]at e;cases e
  ·rw[z,I.free]at r;cases r
noncomputable def tF(CX:k8)(X:Cx)(E:St->XK):Prop:=∀(pins:List (Addr×Obj))(σ:St)(H:Hp)(s:Shared)(u:Value)(s' :Shared),Inv X pins σ H s->CX X.stack H s (E σ) u s' ->X.xe u s'
noncomputable def wn(sp:Sp)(dvs:List V)(E:St->XK)(t:TA):TE:=fun σ H Q=>t σ H fun vs H1=>sp (vs++dvs) H1 Q (E σ)
theorem qm{CX:k8}{k:Nat}{f:Addr}{fd:FuncData}{ps:List Str}{sp:Sp}{dvs:List V}{ds:List Value}{E:St->XK}{x:Str}{p pos:Pos}{e:Expr}{es:List Expr}{t:TA}(F:ah X.prog X.w X.K X.mg X.base CX k f fd ps sp)(hr:bE k X.A)(hg:Gl X x)
  (hm:X.mg x=some (.ref f)) (hk:W.keepIn X.K (.ref f)=true) (hb:Binds X.K fd ps ds) (hd:aI dvs ds) (hx:tF CX X E) (ha:PA X (e::es) t) (hdb:(x==("__debug__":Str))=false:=by decide)
  (he:starEach (e::es) X.env=(false,eval e X.env)::starEach es X.env:=by rfl) (hpl:(backTo pos (starEach es X.env)).any (·.1)=false:=by rfl):PE X (.Call (.Name x p) (e::es) [] pos) (wn sp dvs E t):=by
 intro pins s σ H Q I h;refine B6 (bU I hg hm ?_ hdb);refine W.callWith_K (h₀:=X.base) I.ok.mod.kin hk (ae (ha pos pins s σ H _ I h) fun us s1 ⟨vs,H1,I1,r,q⟩=>⟨I1.kIn,?_⟩) he hpl;have r2:aI (vs++dvs) (us++ds):=r.append hd;have hl:(us++ds).length=ps.length:=by rw[<- r2.length];exact F.len _ _ _ _ q
 refine C6 (Cs (F.run X.A X.stack s1 H1 ⟨us,[]⟩ (us++ds) (vs++dvs) Q (E σ) hr I1.env0 (hb s1 us I1.kIn hl) r2 q) fun r s' hq=> ?_);cases r with
 | error u=>exact hx pins σ H1 s1 u s' I1 hq
 | ok fl =>
  cases fl with
  | ret u=>exact I1.after hq
  | next=>exact hq.elim
  | brk=>exact hq.elim
  | cont=>exact hq.elim
theorem pT{fs ns:List Addr}{H0:Hp}{h0 h1 h2:Heap}(u:Un fs [] H0 H h0 h1)(p:Up fs ns h1 h2)(hn:∀b∈ns,h0.get? b=none):Un fs [] H0 H h0 h2:=by
 have nn:∀b o,h0.get? b=some o->b∉ns:=fun b o q z=>by rw[hn b z]at q;cases q
 refine⟨fun b o q n hb hx=>p.keep b o (u.keep b o q n hb hx) hb (nn b o q),fun b o q n hb hx=> ?_,u.free,fun b o q hx=> ?_,u.tups,u.frzs,u.tbls⟩
 ·obtain⟨sl,e1⟩:=u.slot b o q n hb hx
  obtain⟨sl2,e2⟩:=p.slot b _ e1 hb;exact⟨sl2,e2⟩
 ·obtain⟨o1,e1⟩:=u.there b o q hx
  by_cases hb:b∈fs
  ·obtain⟨sl,e2⟩:=p.slot b _ e1 hb
   exact⟨_,e2⟩
  ·exact⟨_,p.keep b _ e1 hb (nn b o q)⟩
noncomputable def su(i:Nat)(D:cX):cX:={nx:=fun σ H=>D.nx (σ.set i none) H,rt:=D.rt,bk:=fun σ H=>D.bk (σ.set i none) H,ct:=fun σ H=>D.ct (σ.set i none) H}
end
end L2.XN
namespace L2.XN
open PySem PySem.Spec PyProof.Rows L2 XE
structure tH(K:W.Frag)(mg:Str->Option Value)(x:Str)(C:Addr):Prop where
 nm:mg x=some (.ref C)
 cl:(W.clsIn K C).isSome=true
 ty:W.typeIn K (.ref C)=some (.type "type")
section
variable{K:W.Frag}{mg:Str->Option Value}{x:Str}{C D:Addr}{b:Bool}
theorem tH.kcls(k:tH K mg x D)(h:W.subIn K (.ref C) (.ref D)=some b):W.kitCls K (.ref C) (.ref D)=some b:=by
 show(if((W.clsIn K D).isSome&&W.typeIn K (.ref D)==some (.type "type"))=true then W.subIn K (.ref C) (.ref D)else none)=some b;rw[BK (by rw[k.cl,k.ty];rfl)];exact h
theorem tH.kit(k:tH K mg x D)(h:W.subIn K (.ref C) (.ref D)=some b)(hb:C=D->b=true):W.kitOne K (.ref C) (.ref D)=some b:=by
 unfold W.kitOne
 split
 ·rename_i z
  rw[hb (Value.ref.inj (B7.mp z))]
 ·exact k.kcls h
theorem tH.exm(k:tH K mg x D)(h:W.subIn K (.ref C) (.ref D)=some b)(hB:W.subIn K (.ref D) (.type "BaseException")=some true):W.exmOne K (.ref C) (.ref D)=some b:=by
 unfold W.exmOne;rw[BK (by rw[hB];rfl)];exact k.kcls h
theorem xo{T:String}(h:W.subIn K (.ref C) (.type T)=some b)(hm:W.kitMeta T=true):W.kitOne K (.ref C) (.type T)=some b:=by
 unfold W.kitOne;rw[BI (by intro z;cases B7.mp z)];show(if W.kitMeta T=true then W.subIn K (.ref C) (.type T)else none)=some b;rw[BK hm];exact h
theorem qt{h:Heap}{bm:List Value}{newId:String}(X:K.In h)(nm:mg x=some (.ref C))(q:W.excIn K C bm newId=true):OwnCls x C bm newId mg h:=by
 refine⟨nm,?_⟩;unfold W.excIn at q
 split at q
 case h_2=>cases q
 rename_i dd cd sl look
 split at q
 case h_2=>cases q
 rename_i C1 tl k0 k1 k2 k3 n k5 e1 e2;simp only[BB,B7,Ck]at q;obtain⟨⟨⟨⟨⟨z1,z2⟩,z3⟩,z4⟩,z5⟩,z6⟩:=q;subst z1 z2;obtain⟨c1,c2,c3,c4,c5,c6,c7,c8,c9,c10,c11⟩:=cd;dsimp only at e1 z3 z5 z6;subst e1 z3;obtain⟨l⟩:=sl;dsimp only at e2;subst e2;exact⟨tl,_,_,_,_,_,_,_,_,_,_,_,_,_,_,_,_,X _ _ look,.of_isNs (W.isNs_of_in X z5),W.nsMap_none_of_in X z5 z6,W.tail_of_in X z4⟩
end
theorem yK{P:Program}{w:World}{K:W.Frag}{mg:Str->Option Value}{base:Heap}{CX:k8}{k:Nat}{f:Addr}{fd:FuncData}{ps:List Str}{sp:Sp}(len:∀vs H Q E,sp vs H Q E->vs.length=ps.length)
  (h:Mod K mg base->ah P w K mg base CX k f fd ps sp):ah P w K mg base CX k f fd ps sp :=
 ⟨len,fun A outer s H args us vs Q E hr he=>(h he.mod).run A outer s H args us vs Q E hr he⟩
section
variable{X:Cx}{e C:Addr}{dd:Option Addr}{oe:Obj}{c:V}{u:Value}{b:Bool}
end
end L2.XN
namespace XE
open PySem
section
variable{M:Model}{A:Around}{E:Value->Shared->Prop}{h:Heap}{g:Array GenState}{d:Drawn}{t:Nat}{os:OsState}
variable{nm q:Str}{C N:Addr}{bs bm bmB:List Value}{hdct:Bool}{sn:List Str}{sub:List Value}{ab:Bool}{col:Option Bool}{dd:Option Addr}{k0 k1 k2 k3 k5:Option Value}{B Bn newId nid initId inN:String}{bmN:List Value}
theorem mE(Fn:ExcBaseFacts Bn newId inN bmN)(hBn:bmB.contains (.type Bn)=true)(T:OwnTail h bmB bm){aO:List Value}{kw:List (Str×Value)}{Q:Unit->Shared->Prop}(hC:h.get? C=some (excClassObj nm q C N bs bm hdct sn sub ab col dd k0 k1 k2 k3 k5 newId))
  (hq:Q () ⟨h,g,d,t,os⟩):wpAny M A (checkBuiltinCall newId ⟨.ref C::aO,kw⟩) Q E ⟨h,g,d,t,os⟩:=by
 have hcont:(Value.ref C::bm).contains (.type Bn)=true:=by rw[Ch,T.hasType hBn,Bool.or_true]
 have hstar:=Fn.noStar;simp only[checkBuiltinCall,Fn.newKind,Fn.newSplit,Fn.newRow]
 repeat(first|refine Cr hC ?_|(refine wpAny_isSubtype_exc hC ?_;rw[hcont])|refine wpAny_staticBase_exc hC ?_|refine wpAny_madeBy_exc hC ?_|simp only[bne_self_eq_false,Bool.false_eq_true,C8]|wp_step)
 exact hq
end
section
variable{prog:Program}{w:World}{A:Around}{R:Result->Shared->Prop}{h:Heap}{g:Array GenState}{d:Drawn}{t:Nat}{os:OsState}
variable{nm q:Str}{C N:Addr}{bs bm bmB:List Value}{hdct:Bool}{sn:List Str}{sub:List Value}{ab:Bool}{col:Option Bool}{dd:Option Addr}{k0 k1 k2 k3 k5:Option Value}{B Bn newId nid initId inN:String}{bmN:List Value}
theorem rj(Fn:ExcBaseFacts Bn newId inN bmN)(hBn:bmB.contains (.type Bn)=true)(F:ExcBaseFacts B nid initId bmB)(T:OwnTail h bmB bm){aO:List Value}{kw:List (Str×Value)}(hC:h.get? C=some (excClassObj nm q C N bs bm hdct sn sub ab col dd k0 k1 k2 k3 k5 newId))
  (hq:R (.ok (.ret (.ref (h.objs.size+1)))) ⟨(h.push {cls:=.type "tuple",data:=.seq aO.toArray}).push
   {cls:=.ref C,data:=.fields #[.ref h.objs.size,.none,.none,.none,.bool false,.none]},g,d,t,os⟩) (hrest:aO.length<=sizeLine:=by size_fits) :
  codeAny (model prog w) A (.builtin newId ⟨.ref C::aO,kw⟩) R ⟨h,g,d,t,os⟩:=by
 have hends:=Fn.ends;have hcB:(Value.ref C::bm).contains (.type Bn)=true:=by rw[Ch,T.hasType hBn,Bool.or_true]
 have hcA:(Value.ref C::bm).contains (.type "AttributeError")=false:=by rw[Ch,T.hasType F.noAttr];rfl
 have hcN:(Value.ref C::bm).contains (.type "NameError")=false:=by rw[Ch,T.hasType F.noName];rfl
 refine codeAny_builtinAt Fn.entry ?_;unfold Builtin.«BaseException.__new__»;refine wpAt_bind ?_;show wpAt _ _ _ (stack >>= _) _ _ _;refine wpAt_bind (wpAt_stack fun p below=>wpAt_of_wpAny ?_)
 wp_walk
 refine wpAt_of_wpAny ?_;rw[Fn.owner]
 repeat(first|with_reducible refine wpAny_madeHere_exc Fn.canon hC ?_|with_reducible refine Cr hC ?_|(with_reducible refine wpAny_isSubtype_exc hC ?_;first|rw[hcB]|rw[hcA]|rw[hcN])|wp_step)
 show R _ _;rw[Heap.size_push];exact hq
end
section
variable{prog:Program}{w:World}{A:Around}{E:Value->Shared->Prop}{h:Heap}{g:Array GenState}{d:Drawn}{t:Nat}{os:OsState}
variable{nm q:Str}{C N:Addr}{bs bm bmB:List Value}{hdct:Bool}{sn:List Str}{sub:List Value}{ab:Bool}{col:Option Bool}{dd:Option Addr}{k0 k1 k2 k3 k5:Option Value}{B Bn newId nid initId inN:String}{bmN:List Value}
theorem lF(Fn:ExcBaseFacts Bn newId inN bmN)(hBn:bmB.contains (.type Bn)=true)(F:ExcBaseFacts B nid initId bmB)(T:OwnTail h bmB bm){mN:Str->Option Value}{aO:List Value}{kw:List (Str×Value)}{fI:Addr}{oI:Obj}{Q:Fin->Shared->Prop}
  (hC:h.get? C=some (excClassObj nm q C N bs bm hdct sn sub ab col dd k0 k1 k2 k3 k5 newId)) (hn:h.Ns N mN) (hi:mN "__init__"=some (.ref fI)) (hfI:h.get? fI=some oI) (hfc:oI.cls=.type "function")
  (hq:∀h' e,h.objs.size<=e->Heap.MadeExcOf h h' e (.ref C) aO->wpAny (model prog w) A (call (.ref fI) (.ref e::aO) kw) (fun r s' =>r=.none/\Q (.done (.ret (.ref e))) s') E ⟨h',g,d,t,os⟩) (hrest:aO.length<=sizeLine:=by size_fits) :
  wpAny (model prog w) A (Builtin.«type.__call__» ⟨.ref C::aO,kw⟩) Q E ⟨h,g,d,t,os⟩:=by
 repeat(first|with_reducible refine Cr hC ?_|with_reducible refine wpAny_madeBy_exc hC ?_|wp_step)
 refine codeAny_call_builtin_code (Code.quiet_builtin _ Fn.quiet) (mE Fn hBn T hC ?_);refine rj Fn hBn F T hC ?_ hrest;show wpAny _ _ _ _ _ _
 have hC₁:=BA {cls:=.ref C,data:=.fields #[.ref h.objs.size,.none,.none,.none,.bool false,.none]}
  (BA {cls:=.type "tuple",data:=.seq aO.toArray} hC)
 have hfI₁:=BA {cls:=.ref C,data:=.fields #[.ref h.objs.size,.none,.none,.none,.bool false,.none]}
  (BA {cls:=.type "tuple",data:=.seq aO.toArray} hfI)
 have hn₁:((h.push {cls:=.type "tuple",data:=.seq aO.toArray}).push {cls:=.ref C,data:=.fields #[.ref h.objs.size,.none,.none,.none,.bool false,.none]}).Ns N mN :=
  let⟨o,es,ep,e,r⟩:=hn;⟨o,es,ep,BA _ (BA _ e),r⟩
 have hget:((h.push {cls:=.type "tuple",data:=.seq aO.toArray}).push
   {cls:=.ref C,data:=.fields #[.ref h.objs.size,.none,.none,.none,.bool false,.none]}).get? (h.objs.size+1)=some
   {cls:=.ref C,data:=.fields #[.ref h.objs.size,.none,.none,.none,.bool false,.none]}:=by heap_get
 have hcC:(Value.ref C::bm).contains (.ref C)=true:=by simp
 have T₁:=T.keeps (h' :=(h.push {cls:=.type "tuple",data:=.seq aO.toArray}).push {cls:=.ref C,data:=.fields #[.ref h.objs.size,.none,.none,.none,.bool false,.none]})
  fun b o e=>BA _ (BA _ e)
 unfold isInstance
 repeat(first|with_reducible refine Cr hget ?_|(with_reducible refine wpAny_isSubtype_exc hC₁ ?_;rw[hcC])|wp_step)
 show wpAny _ _ (typeLookup (.ref C) _) _ _ _;refine wpAny_typeLookup_tail hC₁ hn₁ T₁ F.mroIs F.init.lookup ?_;rw[hi];refine B2 (A8 ?_);unfold bindSpecial;refine A8 (wpAny_typeOf (T:="function") ⟨_,hfI₁,hfc⟩ ?_);rw[BK (by decide)];refine BG (A8 (B5 (hq _ (h.objs.size+1) (Cu _) ⟨fun b o hb=>BA _ (BA _ hb),DA (Cu _),h.objs.size,hget,DA (BD _),?_⟩) (fun r s' hr=> ?_) fun _ _ x=>x))
 ·exact BA _ (Heap.get?_push_at rfl rfl)
 ·obtain⟨rfl,hQ⟩:=hr
  wp_walk
  exact hQ
theorem oo(Fn:ExcBaseFacts Bn newId inN bmN)(hBn:bmB.contains (.type Bn)=true)(F:ExcBaseFacts B nid initId bmB)(T:OwnTail h bmB bm){mN:Str->Option Value}{aO:List Value}{kw:List (Str×Value)}{fI:Addr}{oI:Obj}{Q:Value->Shared->Prop}
  (hC:h.get? C=some (excClassObj nm q C N bs bm hdct sn sub ab col dd k0 k1 k2 k3 k5 newId)) (hn:h.Ns N mN) (hi:mN "__init__"=some (.ref fI)) (hfI:h.get? fI=some oI) (hfc:oI.cls=.type "function")
  (hq:∀h' e,h.objs.size<=e->Heap.MadeExcOf h h' e (.ref C) aO->wpAny (model prog w) (A.under (.builtin "type.__call__" ⟨.ref C::aO,kw⟩)) (call (.ref fI) (.ref e::aO) kw) (fun r s' =>r=.none/\Q (.ref e) s') E ⟨h',g,d,t,os⟩) (hrest:aO.length<=sizeLine:=by size_fits) :
  wpAny (model prog w) A (call (.ref C) aO kw) Q E ⟨h,g,d,t,os⟩:=by
 have f1:=tc_lookup;have f2:=tc_bind (.ref C);have hT:(⟨h,g,d,t,os⟩:Shared).TypeIs (.ref C) "type":=⟨_,hC,rfl⟩;refine C6 (codeAny_of_tree ?_);show wpAny _ _ (callAny (.ref C) _) _ _ _
 repeat(any_goals (first|assumption|with_reducible refine Cr hC ?_|wp_step))
 refine⟨rfl,?_⟩;have typ:W.Looks (model prog w) h (isInstance (.ref C) (.type "type")) true:=((W.Looks.ld hC).andThen .now).andThen (W.Looks.of_pure tc_sub);refine codeAny_call_builtin_at (Code.quiet_builtin _ (by decide +kernel)) entry_typeCall (W.check_slot tc_kind tc_split typ (W.tc_args _ _ _) (lF (hrest:=hrest) Fn hBn F T hC hn hi hfI hfc fun h' e hz hm=> ?_));exact hq h' e hz hm
end
theorem jq{h:Heap}{bmB tl:List Value}{self:Value}(T:OwnTail h bmB tl)(hp:refuseLoop self "__setattr__" bmB=pure ()):refuseLoop self "__setattr__" tl=pure ():=by
 induction T with
 | base=>exact hp
 | own _ _ _ _ ih=>rw[refuseLoop_ref];exact ih
section
open PySem.W Builtin Builtin.ObjectAttr
variable{prog:Program}{w:World}{A:Around}{E:Value->Shared->Prop}{s:Shared}{K:Frag}{x C:Addr}{name:Str}{v:Value}{cd:ClassData}{o:Obj}
theorem setx{Q:Unit->Shared->Prop}(X:K.In s.heap)(hx:s.heap.get? x=some o)(hcl:o.cls=.ref C)(hdn:o.dict=none)(hfd:∃vs,o.data=.fields vs)(hs:findIn K (.ref C) "__setattr__"=some (some (.builtin "object.__setattr__")))
  (hc:clsIn K C=some cd) (hd:cd.hasDict=true) (hob:mroIn K C (.type "object")=some true) (hp:refuseLoop (.ref x) "__setattr__" cd.mro=pure ()) (ht:takerIn K C name=some none)
  (h:∀h' d tk,s.heap.objs.size<=d->h'.get? x=some {o with dict:=some d}->h'.Ns1 d (fun y=>if y=name then some v else none)->(∀b ob,b≠x->s.heap.get? b=some ob->h'.get? b=some ob)->Q () {s with heap:=h',toks:=tk}) :
  wpAny (model prog w) A (setAttr (.ref x) name v) Q E s:=by
 obtain⟨vs,hvs⟩:=hfd;have I:InstAt s.heap x o C none:=⟨hx,hcl,by unfold notCls;rw[hvs],by rw[hdn];trivial⟩;refine set_plain X I hs ?_;have SF:=PySem.F.store_object;have sub:Looks (model prog w) s.heap (isInstance (.ref x) (.type "object")) true:=I.type.andThen (looks_mroIn X hob);refine codeAny_call_builtin SF.slot.plain SF.entry (@check_slot (model prog w) _ _ {s with toks:=s.toks+1} "object.__setattr__" "object" "__setattr__" (.ref x) [.str name s.toks,v] [] _ SF.kind SF.split sub (SF.args (.ref x) (.str name s.toks) v) ?_);obtain⟨attr,ha,hr⟩:=Option.bind_eq_some_iff.mp ht;have hm:Looks (model prog w) s.heap (mroOf (.ref C)) cd.mro:=(looks_clsIn X hc).andThen .now;have L3:Looks (model prog w) s.heap (storeTaker? attr) none:=by
  cases attr with
  | none=>exact .now
  | some a =>
   obtain⟨b,hb,hb2⟩:=Option.map_eq_some_iff.mp hr;refine(looks_takesIn X hb).andThen ?_;cases b
   ·exact .now
   ·cases hb2
 rw[osa_eq,refuse_eq];refine A8 (A8 (I.type.here (s:={s with toks:=s.toks+1}) (A8 (hm.here (s:={s with toks:=s.toks+1}) ?_))));rw[hp];refine BG (A8 (I.type.here (s:={s with toks:=s.toks+1}) (A8 ((looks_findIn X ha).here (s:={s with toks:=s.toks+1}) (A8 (L3.here (s:={s with toks:=s.toks+1}) ?_))))));obtain⟨oc,odi,oda,osl⟩:=o;dsimp only at hcl hdn hvs;subst hcl hdn hvs;refine A8 (BG (A8 (A8 (wpAny_loadPart hx (A8 (Looks.here (s:={s with toks:=s.toks+1}) (looks_clsIn X hc) ?_))))));rw[hd];have hx₁:(s.heap.push {cls:=.type "dict",data:=.dict #[]}).get? x=some ⟨.ref C,none,.fields vs,osl⟩:=BA _ hx;have hxs:x≠s.heap.objs.size:=BX (BE hx);refine A8 (wpAny_alloc ?_);refine A8 (wpAny_update hx₁ ?_);refine BG ?_
 have hgd:((s.heap.push {cls:=.type "dict",data:=.dict #[]}).update x fun o=>{cls:=o.cls,dict:=some s.heap.objs.size,data:=o.data,slots:=o.slots}).get? s.heap.objs.size
   = some {cls:=.type "dict",data:=.dict #[]} :=
  (Heap.get?_update_ne _ _ _ _ hxs.symm).trans (Heap.get?_push_at rfl rfl)
 have hnd:((s.heap.push {cls:=.type "dict",data:=.dict #[]}).update x fun o=>{cls:=o.cls,dict:=some s.heap.objs.size,data:=o.data,slots:=o.slots}).Ns s.heap.objs.size (fun _=>none) :=
  ⟨_,#[],_,hgd,rfl,fun e he=>absurd he (by simp),fun _=>rfl⟩
 show wpAny _ _ (storeInDict s.heap.objs.size (.str name s.toks) name v) _ _ _;unfold storeInDict newKeyGuard;refine A8 (BG (A8 (wpAny_nsSet1 (Heap.Ns1.of_empty hnd) fun h' hn' hs=> ?_)));obtain⟨oD,esD,epD,hoD,hdD,hcD⟩:=hn'.count (Within.cons name v Within.nil);refine A8 (wpAny_lookBehind hoD (by rw[hdD];exact pastItsLine_dict (Ba hcD (by rw[BS,CT,Bw];omega))) ?_);refine BG (h h' s.heap.objs.size _ (BD _) ?_ hn' fun b ob hbx hb=> ?_)
 ·exact(hs.2 x hxs).trans (C3 _ hx₁ rfl)
 ·exact(hs.2 b (BX (BE hb))).trans ((Heap.get?_update_ne _ _ _ _ hbx).trans (BA _ hb))
end
end XE
namespace XE
open PySem PySem.W PyProof.Rows
section
variable{prog:Program}{w:World}{A:Around}{E:Value->Shared->Prop}{s:Shared}{K:Frag}{e C:Addr}{ox:Obj}{od:Option Obj}{name:Str}{v:Value}
theorem AZ{expr:Bool}{Q:Value->Shared->Prop}(c:XC K C)(X:K.In s.heap)(I:InstAt s.heap e ox C od)(hf:findObj K C od name=some (.value v))(hh:handedIn v=true)(h:Q v {s with toks:=s.toks+1}) :
  wpAny (model prog w) A (getAttr (.ref e) name expr) Q E s:=by
 obtain⟨hp,g,d,t,os⟩:=s;have q0:=I.type (M:=model prog w);have q1:=looks_findIn (M:=model prog w) X c.ga;have q2:=looks_findIn (M:=model prog w) X c.gn;have q3:=looks_find (M:=model prog w) X I hf;unfold getAttr getAttrBy;refine A8 (wpAny_mkText (B2 (A8 (q0.at (A8 (q1.at ?_))))));show wpAny _ _ (getAttrByItsOwn _ _ _ _ _ _) _ _ _;unfold getAttrByItsOwn hookBefore;refine A8 ?_;show wpAny _ _ (typeLookup _ _) _ _ _;refine q2.at ?_;refine A8 (wpAny_attempt (B2 ?_));rw[show∀nv:Value,callGetattribute (.ref e) nv (.builtin "BaseException.__getattribute__") expr=boundAndCalled (.builtin "BaseException.__getattribute__") (.ref e) nv from fun nv=>by cases expr<;>rfl];unfold boundAndCalled;rw[F.attr_ValueError.ga.bind (.ref e)];refine A8 (BG ?_);refine C6 (codeAny_call_builtin F.attr_ValueError.ga.plain F.entry_bexc_ga (kY c X I ?_));unfold Builtin.«object.__getattribute__»;refine A8 (BG ?_);refine A8 (BG ?_);refine A8 (q0.at ?_);refine A8 (q3.at ?_);refine BG ?_;show wpAny _ _ (handedOut v) _ _ _;rw[handedOut_of hh];exact BG h
end
end XE
namespace L2.XN
open PySem PySem.Spec PyProof.Rows L2 XE
noncomputable def XN(C:Addr)(dd:Option Addr)(e:Addr):HO:=.ext fun h=>∃t,h.get? e=some {cls:=.ref C,dict:=dd,data:=.fields #[.ref t,.none,.none,.none,.bool false,.none]}
noncomputable def XO(C:Addr)(dd:Option Addr)(e:Addr):HO:=.ext fun h=>∃o vs,h.get? e=some o/\o.cls=.ref C/\o.dict=dd/\o.data=.fields vs
noncomputable def tS(H:Hp)(C:Addr)(dd:Option Addr)(e:Addr):Prop:=H e=some (XN C dd e)\/H e=some (XO C dd e)
noncomputable def off(H:Hp)(e:Addr):Hp:=fun b=>if b=e then none else H b
section
variable{P:Program}{w:World}{H H1 H2:Hp}{h h2:Heap}{e C:Addr}{dd:Option Addr}{o:HO}{fs ex:List Addr}
theorem pQ{t:Addr}(q:h.get? e=some {cls:=.ref C,dict:=dd,data:=.fields #[.ref t,.none,.none,.none,.bool false,.none]}):aY P w H h e (XN C dd e) :=
 ⟨⟨t,q⟩,⟨_,q⟩,fun _ _ ⟨t,z⟩ k=>⟨t,k _ z⟩⟩
theorem zJ{ob:Obj}{vs:Array Value}(q:h.get? e=some ob)(q1:ob.cls=.ref C)(q2:ob.dict=dd)(q3:ob.data=.fields vs):aY P w H h e (XO C dd e) :=
 ⟨⟨ob,vs,q,q1,q2,q3⟩,⟨_,q⟩,fun _ _ ⟨ob,vs,z,z1,z2,z3⟩ k=>⟨ob,vs,k _ z,z1,z2,z3⟩⟩
theorem tS.at(x:tS H C dd e)(ok:cS P w H h):∃ob vs,h.get? e=some ob/\ob.cls=.ref C/\ob.dict=dd/\ob.data=.fields vs:=by
 rcases x with x|x
 ·obtain⟨⟨t,q⟩,_⟩:=ok e _ x
  exact⟨_,_,q,rfl,rfl,rfl⟩
 ·obtain⟨⟨ob,vs,q,q1,q2,q3⟩,_⟩:=ok e _ x
  exact⟨ob,vs,q,q1,q2,q3⟩
theorem tS.mono(x:tS H C dd e)(s:∀b o,H b=some o->H1 b=some o):tS H1 C dd e:=x.imp (s _ _) (s _ _)
theorem eN(ok:cS P w H h)(n:H e=none)(new:aY P w (upd H e o) h e o):cS P w (upd H e o) h:=fun b u q=>by
 by_cases hb:b=e
 ·subst hb;rw[aD]at q;cases q;exact new
 ·rw[aE hb]at q
  exact(ok b u q).stay (fun _ _ _ z=>z) (fun c z=>by rw[aE (aJ z n)];exact z) fun c xs z=>by rw[aE (aJ z n)];exact z
theorem fo(u:Un fs ex H H1 h h2)(n:h.get? e=none)(n1:H1 e=none):Un fs ex H (upd H1 e o) h h2 :=
 ⟨u.keep,u.slot,fun b ob q z hx=>by rw[aE (fun y=>by rw[y,n]at q;cases q)];exact u.free b ob q z hx,u.there,fun b xs z=>by rw[aE (aJ (u.tups b xs z) n1)];exact u.tups b xs z,
  fun b ob v z=>by rw[aE (aJ (u.frzs b ob v z) n1)];exact u.frzs b ob v z,fun b ps z=>by
   obtain⟨m,y⟩:=u.tbls b ps z;exact⟨m,by rw[aE (aJ y n1)];exact y⟩⟩
end
noncomputable abbrev bmV:List Value:=[.type "ValueError",.type "Exception",.type "BaseException",.type "object"]
noncomputable def excInI(K:W.Frag)(C fI:Addr):Bool:=match K.lookup C with
 | some ⟨.type "type",_,.cls cd,sl⟩=>(match cd.mro,sl.toList with
  | .ref C' ::bm,[_,_,_,_,some (.builtin n),_]=>C' ==C&&n=="ValueError.__new__"&& !cd.hasDel&&W.tailIn K bmV bm&&W.nsOkIn K cd.ns&&W.nsIn K cd.ns "__init__"==some (some (.ref fI))
  | _,_=>false)
 | _=>false
theorem lW{K:W.Frag}{h:Heap}{N:Addr}{mg:Str->Option Value}{n:Str}{v:Value}(X:K.In h)(G:h.Ns N mg)(e:W.nsIn K N n=some (some v)):mg n=some v:=by
 obtain⟨o,es,ep,ho,hd,_,hf⟩:=G;unfold W.nsIn at e
 split at e
 ·rename_i c d es' n' sl q
  have:=X _ _ q;rw[ho]at this;cases this;cases hd
  split at e
  ·rename_i en he
   cases e;rw[<- hf];unfold nsFind findBy;rw[<- Array.find?_toList,he];rfl
  ·split at e<;>cases e
 ·cases e
theorem mw{K:W.Frag}{h:Heap}{C fI:Addr}(X:K.In h)(q:excInI K C fI=true):∃tl N nm qn bs hdct sn sub ab col dd k0 k1 k2 k3 k5 mN,h.get? C=some (excClassObj nm qn C N bs tl hdct sn sub ab col dd k0 k1 k2 k3 k5 "ValueError.__new__")/\h.Ns N mN/\mN "__init__"=some (.ref fI)/\OwnTail h bmV tl /\
  ∀cd,W.clsIn K C=some cd->cd.mro=.ref C::tl:=by
 unfold excInI at q
 split at q
 case h_2=>cases q
 rename_i dd cd sl look
 split at q
 case h_2=>cases q
 rename_i C1 tl k0 k1 k2 k3 n k5 e1 e2;simp only[BB,B7,Ck]at q;obtain⟨⟨⟨⟨⟨z1,z2⟩,z3⟩,z4⟩,z5⟩,z6⟩:=q;subst z1 z2;have e0:∀cd',W.clsIn K C1=some cd' ->cd'.mro=.ref C1::tl:=fun cd' z=>by
  unfold W.clsIn at z;rw[look]at z;cases z;exact e1
 obtain⟨c1,c2,c3,c4,c5,c6,c7,c8,c9,c10,c11⟩:=cd;dsimp only at e1 z3 z5 z6;subst e1 z3;obtain⟨l⟩:=sl;dsimp only at e2;subst e2;exact⟨tl,_,_,_,_,_,_,_,_,_,_,_,_,_,_,_,_,X _ _ look,.of_isNs (W.isNs_of_in X z5),lW X (.of_isNs (W.isNs_of_in X z5)) z6,W.tail_of_in X z4,e0⟩
structure wP(K:W.Frag)(C fI:Addr)(nm:Str):Prop where
 exc:excInI K C fI=true
 fn:∃oI,K.lookup fI=some oI/\oI.cls=.type "function"
 kp:W.keepIn K (.ref C)=true
 xc:XC K C
 sa:W.findIn K (.ref C) "__setattr__"=some (some (.builtin "object.__setattr__"))
 hd:W.hasDictIn K C=true
 tk:W.takerIn K C nm=some none
 at_:W.findIn K (.ref C) nm=some none
section
variable{X:Cx}{pins:List (Addr×Obj)}{σ:St}{H:Hp}{s:Shared}{C f e:Addr}{nm:Str}{k:Nat}{fd:FuncData}{ps:List Str}{sp:Sp}{E:XK}{Q:VK}{us ws:List Value}{zs:List V}{kw:List (Str×Value)}
theorem ma(M:wP X.K C f nm)(F:ah X.prog X.w X.K X.mg X.base cY k f fd ps sp)(hr:bE (k+1) X.A)(hl:us.length<=sizeLine)(hb:∀(s:Shared) (e:Value),X.K.In s.heap->BindsTo s fd ⟨e::us,kw⟩ (ps.zip (e::ws)))(r:aI zs ws)(I:Inv X pins σ H s)
  (h:∀e,H e=none->sp (.ref e::zs) (upd H e (XN C none e)) (fun v H2=>v=.non/\Q (.ref e) H2) E):wpAny (model X.prog X.w) X.A (call (.ref C) us kw) (EP X pins σ Q) X.xe s:=by
 obtain⟨tl,N,nm',qn,bs,hdct,sn,sub,ab,col,dd,k0,k1,k2,k3,k5,mN,hC,hN,hi,T,_⟩:=mw I.kIn M.exc;obtain⟨oI,hoI,hfc⟩:=M.fn;have FV:=DB;have go:∀h' e,s.heap.objs.size<=e->Heap.MadeExcOf s.heap h' e (.ref C) us->wpAny (model X.prog X.w) (X.A.under (.builtin "type.__call__" ⟨.ref C::us,kw⟩)) (call (.ref f) (.ref e::us) kw) (fun r s' =>r=.none/\EP X pins σ Q (.ref e) s') X.xe {s with heap:=h'}:=fun h' e hz hm=>by
  obtain⟨t,he,_,_⟩:=hm.there;have I2:Inv X pins σ (upd H e (XN C none e)) {s with heap:=h'}:=I.laid (t' :=s.toks) hm.keeps hz (pQ he);refine C6 (Cs (F.run _ X.stack _ _ ⟨.ref e::us,kw⟩ (.ref e::ws) (V.ref e::zs) _ E (hr.make C us kw) (I2.env0.make C us kw) (hb _ _ I2.kIn) (.cons rfl r) (h e (I.hok.fresh hz))) fun r s' hq' => ?_);cases r with
  | error e=>exact hq'.elim
  | ok fl =>
   cases fl with
   | ret u =>
    obtain⟨v,H',I3,rv,ev,q3⟩:=I2.after hq';subst ev;exact⟨rv,⟨V.ref e,H',I3,rfl,q3⟩⟩
   | next=>exact False.elim hq'
   | brk=>exact False.elim hq'
   | cont=>exact False.elim hq'
 obtain⟨hp,g,d,t,os⟩:=s;exact oo FV (by decide) FV T hC hN hi (I.kIn _ _ hoI) hfc go hl
end
end L2.XN
namespace L2.XN
open PySem PySem.Spec PyProof.Rows L2 XE
section
variable{X:Cx}{pins:List (Addr×Obj)}{σ:St}{H:Hp}{s:Shared}{C f e:Addr}{nm x:Str}{k:Nat}{fd:FuncData}{ps:List Str}{sp:Sp}{E:XK}{Q:VK}{p pos pos' :Pos}{e1 o value:Expr}{es:List Expr}{t:TA}{ta tv te:TE}{dvs:List V}{ds:List Value}
noncomputable def tMkx(C:Addr)(sp:Sp)(dvs:List V)(E:XK)(t:TA):TE:=fun σ H Q=>t σ H fun vs H1=>vs.length<=sizeLine/\∀e,H1 e=none->sp (.ref e::(vs++dvs)) (upd H1 e (XN C none e)) (fun v H2=>v=.non/\Q (.ref e) H2) E
theorem uF{us:List Value}{vs:List V}(M:wP X.K C f nm)(F:ah X.prog X.w X.K X.mg X.base cY k f fd ps sp)(hr:bE (k+1) X.A)(hb:Binds X.K fd ps ds)(hd:aI dvs ds)(I:Inv X pins σ H s)(r:aI vs us)(hz:vs.length<=sizeLine)
  (h:∀e,H e=none->sp (.ref e::(vs++dvs)) (upd H e (XN C none e)) (fun v H2=>v=.non/\Q (.ref e) H2) E):wpAny (model X.prog X.w) X.A (call (.ref C) us) (EP X pins σ Q) X.xe s:=by
 have hl:(Value.none::us++ds).length=ps.length:=by
  have e:=F.len _ _ _ _ (h s.heap.objs.size (I.hok.fresh (BD _)));have e2:=(r.append hd).length;simp only[BS,BL]at e e2 ⊢;omega
 refine ma (kw:=[]) (ws:=us++ds) M F hr (by rw[<- r.length];exact hz) (fun s e X=> ?_) (r.append hd) I h;exact hb s (e::us) X (by simpa using hl)
theorem uZ(M:wP X.K C f nm)(F:ah X.prog X.w X.K X.mg X.base cY k f fd ps sp)(hr:bE (k+1) X.A)(hg:Gl X x)(hm:X.mg x=some (.ref C))(hb:Binds X.K fd ps ds)(hd:aI dvs ds)
  (hdb:(x==("__debug__":Str))=false:=by decide):PE X (.Call (.Name x p) [] [] pos) (tMkx C sp dvs E wl):=by
 intro pins s σ H Q I h;refine B6 (bU I hg hm ?_ hdb);exact W.callWith_K0 I.kIn M.kp (uF (us:=[]) M F hr hb hd I .nil h.1 h.2)
noncomputable def zi(K:W.Frag)(ta tv:TE)(f:Str):TS:=fun D σ H=>tv σ H fun y H1=>ta σ H1 fun x H2=>∃e C fI,x=.ref e/\H2 e=some (XN C none e)/\wP K C fI f/\∀d,H2 d=none->d≠e->D.nx σ (upd (upd H2 e (XN C (some d) e)) d (.xd [(f,y)]))
theorem uM{f:Str}(ha:PE X o ta)(hv:PE X value tv)(hs:swapsWith value (some (.Attribute o f pos')) pos.line X.env=pure false):PS X (.Assign [.Attribute o f pos'] value pos) (zi X.K ta tv f):=by
 intro pins s σ H D I h;refine plainObj_wpAny_Assign_Attribute (ae (hv pins s σ H _ I h) fun u s1 ⟨y,H1,I1,ry,q⟩=>ae (ha pins s1 σ H1 _ I1 q) fun ov s2 ⟨x,H2,I2,rx,e,C,fI,ex,ea,M,q2⟩=> ?_) hs;subst ex;obtain rfl:ov=Value.ref e:=rx;obtain⟨⟨t,he⟩,_⟩:=I2.hok e _ ea;obtain⟨cd,hc,hd⟩:=W.any_some M.hd;obtain⟨tl,N,nm',qn,bs,hdct,sn,sub,ab,col,dd,k0,k1,k2,k3,k5,mN,hC,hN,hi,T,hmro⟩:=mw I2.kIn M.exc;refine setx (cd:=cd) I2.kIn he rfl rfl ⟨_,rfl⟩ M.sa hc hd M.xc.ob ?_ M.tk fun h' d tk hz hx hn kp=> ?_
 ·rw[hmro cd hc,refuseLoop_ref]
  exact jq T (PySem.F.store_ValueError.passes _)
 ·have hde:d≠e:=fun z=>absurd (BE he) (by rw[<- z];exact Nat.not_lt.mpr hz)
  have hn2:H2 d=none:=I2.hok.fresh hz;have hd0:s2.heap.get? d=none:=DA hz;have J:Inv X pins σ (upd (upd H2 e (XN C (some d) e)) d (.xd [(f,y)])) {s2 with heap:=h',toks:=tk}:=by
   have mu:zB (H2 e):=by rw[ea];exact True.intro
   have n2:upd H2 e (XN C (some d) e) d=none:=by rw[aE hde];exact hn2
   refine I2.un (fo (Un.write mu (.inl rfl) kp ⟨_,hx⟩) hd0 n2) (eN (I2.hok.write mu (.inl rfl) kp ⟨_,hx⟩ (pQ hx)) n2 ⟨_,hn,fun g=> ?_⟩);show eZ ((match g==f with|true=>some y|false=>none):Option V) (if g=f then some u else none)
   by_cases hg:g=f
   ·rw[BK hg,B7.mpr hg];exact ry
   ·rw[BI hg,beq_false_of_ne hg];exact True.intro
  exact⟨σ,_,J,q2 d hn2 hde⟩
noncomputable def zP(K:W.Frag)(ta:TE)(f:Str):TE:=fun σ H Q=>ta σ H fun x H1=>∃e C fI d fs v,x=.ref e/\tS H1 C (some d) e/\H1 d=some (.xd fs)/\wP K C fI f/\fs.lookup f=some v/\Q v H1
theorem mq{f:Str}(he:PE X o ta)(hb:attributeBase o f X.env (eval o X.env)=eval o X.env):PE X (.Attribute o f pos) (zP X.K ta f):=by
 intro pins s σ H Q I h;refine vh hb (ae (he pins s σ H _ I h) fun u s1 hpq=> ?_);obtain⟨x,H1,I1,rx,e,C,fI,d,fs,v,ex,ea,ed,M,l,q⟩:=hpq;subst ex;obtain rfl:u=Value.ref e:=rx;obtain⟨ob,vs,h1,h2,h3,h4⟩:=ea.at I1.hok;obtain⟨mA,hn,r⟩:=I1.hok d _ ed;obtain⟨u',hu,ru⟩:=eZ.some_of (v:=v) (o:=mA f) (by rw[<- l];exact r f);obtain⟨od,ho,hl⟩:=eK hn;have J:W.InstAt s1.heap e ob C (some od):=⟨h1,h2,by unfold W.notCls;rw[h4],by rw[h3];exact ho⟩;exact AZ M.xc I1.kIn J (W.findObj_own M.hd M.at_ rfl (by rw[hl,hu])) (oh ru) ⟨v,H1,I1.tok _,ru,q⟩
theorem si{c:V}{u:Value}{b:Bool}(xc:XC X.K C)(hu:∀v,RelV c v->v=u)(k:W.kitOne X.K (.ref C) u=some b):ay X (.builtin "isinstance") (fun xs H Q=>∃e dd,xs=[.ref e,c]/\tS H C dd e/\(∀d,dd=some d->∃fs,H d=some (.xd fs))/\Q (.bl b) H):=by
 intro pins s σ H xs us Q I r h;obtain⟨e,dd,rfl,hx,hd,q⟩:=h;obtain⟨u1,u2,rfl,r1,r2⟩:=vals2 r;cases r1;rw[hu u2 r2];obtain⟨ob,vs,h1,h2,h3,h4⟩:=hx.at I.hok;have ia:∃od,W.InstAt s.heap e ob C od:=by
  cases dd with
  | none=>exact⟨none,h1,h2,by unfold W.notCls;rw[h4],by rw[h3];trivial⟩
  | some d =>
   obtain⟨fs,ed⟩:=hd d rfl;obtain⟨mA,hn,r⟩:=I.hok d _ ed;obtain⟨od,ho,hl⟩:=eK hn;exact⟨some od,h1,h2,by unfold W.notCls;rw[h4],by rw[h3];exact ho⟩
 obtain⟨od,ia⟩:=ia;exact CL (kitx xc) I.kIn ⟨ob,od,ia⟩ k (fun z=>by cases z) fun tk=>⟨.bl b,H,I.tok _,rfl,q⟩
end
section
variable{X:Cx}{ex:Expr}{te:TE}{pos:Pos}
end
section
variable{P:Program}{w:World}{K:W.Frag}{mg:Str->Option Value}{base:Heap}{N:List Str}{qual:Str}{scope:Scope}{f C:Addr}{cd:Value}{A:Around}{outer:List Env}{s s1:Shared}{H H1:Hp}{E:XK}
 {pins:List (Addr×Obj)} {σ:St}
end
end L2.XN
namespace L2.XN
open PySem PySem.Spec PyProof.Rows L2 XE
section
variable{X:Cx}{pins:List (Addr×Obj)}{σ:St}{H:Hp}{s:Shared}
noncomputable def vx(C:Addr)(i:Nat)(tb:(St->XK)->TS)(ts:Addr->Option Addr->TS):TS:=fun D σ H =>
 ∃E:St->XK,tb E D σ H/\∀σ' H' dd,σ'.length=σ.length->E σ' (.ref C) dd H' ->∀e,H' e=none->ts e dd (su i D) (σ'.set i (some (.ref e))) (upd H' e (XO C dd e))
theorem uN{C D:Addr}{i:Nat}{n bx:Str}{bp hpos pos:Pos}{body suite:List Stmt}{b0:Stmt}{tb:(St->XK)->TS}{ts:Addr->Option Addr->TS}(hcalm:X.calm=true)(hst:X.stack=X.env::X.outer)(hf:X.env.frame=some X.env.locals)(hN:X.N.Nodup)(hi:X.N[i]? =some n)
  (hk:X.env.scope.names.lookup n=some .local) (hg:Gl X bx) (hm:X.mg bx=some (.ref D)) (hx:W.exmOne X.K (.ref C) (.ref D)=some true)
  (hb:∀(E:St->XK)(pn:List (Addr×Obj))(Wh:Value->Shared->Prop),tF (wQ X.prog X.w C) (qR X pn Wh) E->jW (qR X pn Wh) body (tb E))
  (hs:∀(e:Addr)(dd:Option Addr)(pn:List (Addr×Obj)),jW (yA X e pn) (b0::suite) (ts e dd)) (hd:(bx==("__debug__":Str))=false:=by decide) :
  PS X (.Try body [.ExceptHandler (some (.Name bx bp)) (some n) (b0::suite) hpos] [] [] pos) (vx C i tb ts):=by
 intro pins s σ H D' I ⟨E,hq,hh⟩;refine wpAny_Try_except ?_
 let Wh:Value->Shared->Prop:=fun u s' =>wpAny (model X.prog X.w) X.A (noteFrame u X.env) (fun _ s2=>wpAny (model X.prog X.w) X.A (setFlight u none) (fun _ s3 =>
  wpAny (model X.prog X.w) X.A (handleBy u X.env [.ExceptHandler (some (.Name bx bp)) (some n) (b0::suite) hpos]) (SP X pins D') X.xe s3) X.xe s2) X.xe s'
 have hp:tF (wQ X.prog X.w C) (qR X (X.pn++pins) Wh) E:=by
  intro p2 σ1 H1 s1 u s2 I1 ⟨e,T,H2,dd,hu,ho,hbr,un,ok,n1,n2,n3,n4,fly,q⟩;subst hu;have J1:Inv X pins σ1 H1 s1:=unpinned I.ok I1;have J2:Inv X pins σ1 H2 s2:=J1.call' (ch:=[]) ho un ok hbr (fun b z=>absurd z (by simp));have hfr:X.A.frames=some (X.env::X.outer):=by rw[<- hst];exact I.ok.frames
  have hfs:s2.heap.FunFrames X.base (X.env::X.outer):=by rw[<- hst];exact J2.stack
  have ns:∀b∈[e,T],s1.heap.get? b=none/\H2 b=none:=fun b m=>by
   rcases BP.mp m with r|r
   ·rw[r];exact⟨n1,n3⟩
   ·rw[Bp.mp r];exact⟨n2,n4⟩
  have st:∀{h3:Heap},Up (fr (X.env::X.outer)) [e,T] s2.heap h3->Inv X pins σ1 H2 {s2 with heap:=h3}:=fun{h3} up=>by
   rw[<- hst]at up;exact J1.call' (ch:=[]) (s' :={s2 with heap:=h3}) ho (pT un up fun b m=>(ns b m).1) (ll ok up J2.stkFree fun b m=>(ns b m).2) hbr (fun b z=>absurd z (by simp))
  show wpAny _ _ (noteFrame (.ref e) X.env) _ _ s2;refine ul (base:=X.base) hfr hfs hf fly fun h3 T' up hT fly3=> ?_;have J3:=st up;refine wpAny_handleBy_cons (codeAny_handlers_test ?_) (by intro z;cases z);have K3:Inv (yA X e []) [] σ1 H2 {s2 with heap:=h3}:=AU J3 (fun p z=>absurd z (by simp));refine bU K3 hg hm ?_ hd;obtain⟨oe,vs,oT,tts,e1,e2,e3,e4,e5,e6,e7,e8,e9⟩:=id fly3;have lt:W.Looks (model X.prog X.w) h3 (typeOf (.ref e)) (.ref C):=e2▸(W.Looks.ld e1).andThen .now;refine(W.exm_one (M:=model X.prog X.w) K3.kIn lt hx).here ?_;refine codeAny_handlers_suite_as ?_;refine land (s:={s2 with heap:=h3}) fly3 fun h4 k4 fly4=> ?_;obtain⟨oe4,vs4,oT4,ts4,f1,f2,f3,f4,f5,f6,f7,f8,f9⟩:=id fly4;have K4:Inv (yA X e (X.pn++pins)) [] σ1 (upd H2 e (XO C dd e)) {s2 with heap:=h4}:=by
   have up4:=up.land hT k4;rw[<- hst]at up4
   have J5:Inv X pins σ1 (upd H2 e (XO C dd e)) {s2 with heap:=h4}:=J1.call' (ch:=[]) (s' :={s2 with heap:=h4}) ho (fo (pT un up4 fun b m=>(ns b m).1) n1 n3)
    (eN (ll ok up4 J2.stkFree fun b m=>(ns b m).2) n3 (zJ f1 f2 f3 f4)) hbr (fun b z=>absurd z (by simp))
   exact AU J5 fun p m=>J5.pin p m
  refine dh (X:=yA X e (X.pn++pins)) K4 hN hi (.inl hk) (v:=.ref e) rfl (fun s5 I5=> ?_) (.inr hk);refine B5 (hs e dd _ [] s5 _ _ (su i D') I5 (hh σ1 H2 dd ?_ q e n3)) (fun f s6 r=> ?_) fun _ _ z=>z.elim
  ·rw[J1.len,I.len]
  have fin:∀σ6 H6 v0,Inv (yA X e (X.pn++pins)) [] σ6 H6 s6->(∀s7,Inv X pins (σ6.set i none) H6 s7->SP X pins D' f s7)->v0=v0 ->
    wpAny (model X.prog X.w) X.A (do bindName X.env n .none;unbindBehindTheSuite X.env n hpos) (fun _ s3=>SP X pins D' f s3) X.xe s6:=fun σ6 H6 (v0:Nat) I6 k _=>by
   have J6:Inv X pins σ6 H6 s6:=AD I.ok I6 fun p m=>m;refine A8 (wpAny_bindName (dh J6 hN hi (.inl hk) (v:=.non) rfl (fun s7 J7=> ?_) (.inr hk)));unfold unbindBehindTheSuite;refine wpAny_onRaise (yU J7 hN hi hk (v:=.non) ?_ fun s8 J8=> ?_)
   ·rw[Bv (by rw[J6.len];exact(BM.mp hi).1)]
   ·rw[List.set_set]at J8
    exact k s8 J8
  cases f with
  | next =>
   obtain⟨σ6,H6,I6,q6⟩:=r;exact fin σ6 H6 0 I6 (fun s7 J=>⟨_,_,J,q6⟩) rfl
  | brk =>
   obtain⟨σ6,H6,I6,q6⟩:=r;exact fin σ6 H6 0 I6 (fun s7 J=>⟨_,_,J,q6⟩) rfl
  | cont =>
   obtain⟨σ6,H6,I6,q6⟩:=r;exact fin σ6 H6 0 I6 (fun s7 J=>⟨_,_,J,q6⟩) rfl
  | ret u =>
   obtain⟨v,σ6,H6,I6,rv,q6⟩:=r;exact fin σ6 H6 0 I6 (fun s7 J=>⟨v,_,_,J,rv,q6⟩) rfl
 refine B5 (hb E _ Wh hp [] s σ H D' (pinned I) hq) (fun f s1 r=> ?_) fun _ _ r=>r;cases f with
 | next =>
  obtain⟨σ6,H6,I6,q6⟩:=r;exact DF ⟨σ6,H6,unpinned I.ok I6,q6⟩
 | brk =>
  obtain⟨σ6,H6,I6,q6⟩:=r;exact⟨σ6,H6,unpinned I.ok I6,q6⟩
 | cont =>
  obtain⟨σ6,H6,I6,q6⟩:=r;exact⟨σ6,H6,unpinned I.ok I6,q6⟩
 | ret u =>
  obtain⟨v,σ6,H6,I6,rv,q6⟩:=r;exact⟨v,σ6,H6,unpinned I.ok I6,rv,q6⟩
end
end L2.XN
namespace L2.XN
open PySem PySem.Spec PyProof.Rows L2 XE
section
variable{X:Cx}{pins:List (Addr×Obj)}{σ:St}{H:Hp}{s:Shared}{C f e:Addr}{nm nk x:Str}{k:Nat}{fd:FuncData}{ps:List Str}{sp:Sp}{E:XK}{Q:VK}{p pos kpos:Pos}{e1:Expr}{te:TE}
theorem qg(q:W.excIn X.K C bmV "ValueError.__new__"=true)(kp:W.keepIn X.K (.ref C)=true)(hg:Gl X x)(hm:X.mg x=some (.ref C))(hdb:(x==("__debug__":Str))=false:=by decide) :
  PE X (.Call (.Name x p) [] [] pos) (fun σ H Q=>∀e,H e=none->Q (.ref e) (upd H e (XN C none e))):=by
 intro pins s σ H Q I h;refine B6 (bU I hg hm ?_ hdb);refine W.callWith_K0 I.kIn kp ?_;obtain⟨tl,N,nm,qn,bs,hdct,sn,sub,ab,col,dd,k0,k1,k2,k3,k5,mN,hC,hN,hni,T⟩:=(qt I.kIn hm q).obj;have FV:=DB;have go:∀h' e,Heap.MadeExcOf s.heap h' e (.ref C) []->EP X pins σ Q (.ref e) {s with heap:=h'}:=fun h' e mk=>by
  obtain⟨t,he,-,-⟩:=mk.there;have n:=gR I.hok mk.new;exact⟨.ref e,_,I.un (t' :=s.toks) (fo (Un.kept mk.keeps) mk.new n) (eN (I.hok.kept mk.keeps) n (pQ he)),rfl,h e n⟩
 obtain⟨hp,g,d,t,os⟩:=s;exact wpAny_call_exc_subU FV (by decide) FV T hC hN hni go
theorem uY(M:wP X.K C f nm)(F:ah X.prog X.w X.K X.mg X.base cY k f fd ps sp)(hr:bE (k+1) X.A)(hg:Gl X x)(hm:X.mg x=some (.ref C))(hb:∀(s:Shared) (e u:Value),X.K.In s.heap->BindsTo s fd ⟨[e],[(nk,u)]⟩ (ps.zip [e,u]))(he:PE X e1 te)
  (hdb:(x==("__debug__":Str))=false:=by decide) (hall:(backToKw pos (keywordEach [⟨some nk,e1,kpos⟩] X.env)).all (·.1.isSome)=true:=by rfl) (hks:(backToKw pos (keywordEach [⟨some nk,e1,kpos⟩] X.env)).filterMap (·.1)=[nk]:=by rfl)
  (hpl:((backTo pos (starEach [] X.env)).any (·.1)||(backToKw pos (keywordEach [⟨some nk,e1,kpos⟩] X.env)).any (·.1.isNone))=false:=by rfl) :
  PE X (.Call (.Name x p) [] [⟨some nk,e1,kpos⟩] pos) (fun σ H Q=>te σ H fun y H1=>∀e,H1 e=none->sp [.ref e,y] (upd H1 e (XN C none e)) (fun v H2=>v=.non/\Q (.ref e) H2) E):=by
 intro pins s σ H Q I h;refine B6 (bU I hg hm ?_ hdb)
 let R:List V->Hp->Prop:=fun zs H1=>match zs with
  | [y]=>∀e,H1 e=none->sp [.ref e,y] (upd H1 e (XN C none e)) (fun v H2=>v=.non/\Q (.ref e) H2) E
  | _=>False
 refine W.callWith_KW0 (h₀:=X.base) I.ok.mod.kin M.kp hall (ae (uW he xJ pos pins s σ H R I h) fun ws s1 ⟨zs,H1,I1,rz,q⟩=>⟨I1.kIn,?_⟩) hpl
 match zs,q,rz with
 | [y],q,rz =>
  obtain⟨u,rfl,ru⟩:=rz.one;rw[hks];exact ma (us:=[]) (kw:=[(nk,u)]) (ws:=[u]) (zs:=[y]) M F hr (Be _) (fun s e X=>hb s e u X) (.cons ru .nil) I1 q
end
end L2.XN
namespace L2.XN
open PySem PySem.Spec PyProof.Rows L2 XE
structure tD(k:Nat)(A:Around):Prop where
 dp:A.depth+3*k+5<recursionLimit
 un:A.units+16*k+200<cLine
noncomputable abbrev cxH(P:Program)(w:World)(K:W.Frag)(mg:Str->Option Value)(base:Heap)(N:List Str)(qual:Str)(scope:Scope)(f:Addr)(cd:Value)(A:Around)(outer:List Env)(s:Shared)(H:Hp):Cx :=
 {cV cY P w K mg base N qual scope f cd A outer s H E0 with calm:=false,xe:=fun _ _=>False}
structure iR(P:Program)(w:World)(K:W.Frag)(mg:Str->Option Value)(base:Heap)(k:Nat)(f:Addr)(fd:FuncData)(ps:List Str)(sp:Sp):Prop where
 len:∀vs H Q E,sp vs H Q E->vs.length=ps.length
 run:∀(A:Around)(outer:List Env)(s:Shared)(H:Hp)(args:Args)(us:List Value)(vs:List V)(Q:VK),tD k A->jT P w K mg base A outer s H->BindsTo s fd args (ps.zip us)->aI vs us->sp vs H Q E0 ->
  codeAny (model P w) A (.call (.ref f) args) (CR cY outer P w H s Q E0) s
section
variable{P:Program}{w:World}{K:W.Frag}{mg:Str->Option Value}{base:Heap}{N ps:List Str}{qual:Str}{scope:Scope}{f:Addr}{A:Around}{outer:List Env}{s s1:Shared}{H:Hp}{us:List Value}{vs:List V}{k:Nat}{sp:Sp}
theorem lj{cd:Value}(S:ax N ps scope)(e0:jT P w K mg base A outer s H)(hl:vs.length=ps.length)(r:aI vs us)
  (x:InCallC s s.heap.objs.size (bindL (envOfC qual scope s.heap.objs.size f cd).kindOf (ps.zip us) fun _=>none) (cellsFrom (s.heap.objs.size+1) scope.names []) (bindC (envOfC qual scope s.heap.objs.size f cd).kindOf (ps.zip us) fun _=>none) s1) :
  Inv (cxH P w K mg base N qual scope f cd A outer s H) [] (start N vs) H s1:=by
 have J:Inv (cV cY P w K mg base N qual scope f cd {A with handled:=none} outer s H E0) [] (start N vs) H s1:=iL S rfl ⟨e0.frames,e0.mod,e0.bs,e0.bsz,e0.funs,e0.frf,e0.hok,e0.bare⟩ hl r x;exact⟨⟨J.ok.mod,J.ok.kind,J.ok.glob,J.ok.blt,J.ok.above,J.ok.inj,J.ok.has,J.ok.cab,(fun z=>by cases z),Around.frames_deeper e0.frames,J.ok.stk,J.ok.exf,J.ok.bs,J.ok.bsz,J.ok.noex,J.ok.exfs,J.ok.funs,J.ok.frf⟩,J.os,J.bare,J.base,J.loc,J.cell,J.free,J.freeC,J.pin,J.hok,J.len⟩
theorem yJ{name:Str}{params:Arguments}{body:List Stmt}{dV kV doc pm cdv ct oc:Value}{an od:Option Addr}{osl:Array (Option Value)}(lk:K.lookup f=some ⟨oc,od,.func (W.fnOf name qual params body scope dV kV doc pm an cdv ct),osl⟩)(hcd:W.codeIn K cdv qual=true)(S:ax N ps scope)
  (len:∀vs H Q E,sp vs H Q E->vs.length=ps.length)
  (hbody:∀(A:Around)(outer:List Env)(s:Shared)(H:Hp)(vs:List V)(Q:VK),sp vs H Q E0->∃t,jW (cxH P w K mg base N qual scope f cdv A outer s H) body t/\t {nx:=fun _ H' =>Q .non H',rt:=Q} (start N vs) H) :
  iR P w K mg base (k+1) f (W.fnOf name qual params body scope dV kV doc pm an cdv ct) ps sp:=by
 refine⟨len,fun A outer s H args us vs Q hr e0 hb r hsp=> ?_⟩;have hl:=len _ _ _ _ hsp;have KX:K.In s.heap:=e0.mod.kin.keeps fun b o e=>(e0.bs b o e).1;have lim:s.heap.NoLimit:=e0.mod.nolimit.keeps fun b o e=>(e0.bs b o e).1;have hkind:∀y∈ps.zip us,scope.names.lookup y.1=some .local\/(scope.names.lookup y.1=some .cell/\((cellsFrom (s.heap.objs.size+1) scope.names []).lookup y.1).isSome=true):=fun⟨n,v⟩ hy=>by
  rcases S.par n (List.of_mem_zip hy).1 with q|q
  ·exact .inl q
  ·exact .inr ⟨q,W.cellsFrom_some _ _ _ (.inl q)⟩
 refine codeAny_call_function (by have:=hr.dp;omega) (KX _ _ lk) rfl S.co S.gen rfl (W.codeRec_of KX hcd) (hb _ _ _ _ ?_);refine wpAny_newFunctionEnv_cells S.kind hkind fun env he s1 x=> ?_;subst he;refine⟨lim.keeps x.toInCall.keep,codeAny_func ?_⟩;obtain⟨t,ht,hq⟩:=hbody A outer s H vs Q hsp;have I:Inv (cxH P w K mg base N qual scope f cdv A outer s H) [] (start N vs) H s1:=lj S e0 hl r x;refine B5 (ht [] s1 (start N vs) H _ I hq) (fun fl s' hs=> ?_) fun e s' hs=>hs.elim
 have fin:∀{σ' :St}{H' :Hp}{v:V}{u:Value},Inv (cxH P w K mg base N qual scope f cdv A outer s H) [] σ' H' s' ->RelV v u->Q v H' ->CE outer P w H s Q u s' :=
  fun{σ' H' v u} J rv q=>⟨v,H',J.os,J.bare,J.base,J.hok,rv,q⟩
 cases fl with
 | ret u =>
  obtain⟨v,σ',H',J,rv,q⟩:=hs;exact fin J rv q
 | next =>
  obtain⟨σ',H',J,q⟩:=hs;exact fin (v:=V.non) (u:=Value.none) J rfl q
 | brk =>
  obtain⟨_,_,_,q⟩:=hs;exact False.elim q
 | cont =>
  obtain⟨_,_,_,q⟩:=hs;exact False.elim q
theorem iR.ok{fd:FuncData}(F:iR P w K mg base k f fd ps sp)(h0:∀vs H Q E,sp vs H Q E->sp vs H Q E0):ah P w K mg base cY k f fd ps sp :=
 ⟨F.len,fun A outer s H args us vs Q E hr he hb hv hs=>Cs (F.run A outer s H args us vs Q ⟨hr.dp,hr.un⟩ he hb hv (h0 _ _ _ _ hs)) fun r s' z=>by
  cases r with
  | error e=>exact z.elim
  | ok fl=>exact z⟩
end
section
variable{X:Cx}{k:Nat}{f:Addr}{fd:FuncData}{ps:List Str}{sp:Sp}{x:Str}{p pos:Pos}{e:Expr}{es:List Expr}{t:TA}
theorem qo(F:iR X.prog X.w X.K X.mg X.base k f fd ps sp)(hr:tD k X.A)(hg:Gl X x)(hm:X.mg x=some (.ref f))(hk:W.keepIn X.K (.ref f)=true)(hb:Binds X.K fd ps [])(ha:PA X (e::es) t)
  (hdb:(x==("__debug__":Str))=false:=by decide) (he:starEach (e::es) X.env=(false,eval e X.env)::starEach es X.env:=by rfl) (hpl:(backTo pos (starEach es X.env)).any (·.1)=false:=by rfl) :
  PE X (.Call (.Name x p) (e::es) [] pos) (fun σ H Q=>t σ H fun vs H1=>sp vs H1 Q E0):=by
 intro pins s σ H Q I h;refine B6 (bU I hg hm ?_ hdb);refine W.callWith_K (h₀:=X.base) I.ok.mod.kin hk (ae (ha pos pins s σ H _ I h) fun us s1 ⟨vs,H1,I1,r,q⟩=>⟨I1.kIn,?_⟩) he hpl;have hl:(us++[]).length=ps.length:=by rw[Bz,<-r.length];exact F.len _ _ _ _ q
 have hb2:=hb s1 us I1.kIn hl;rw[Bz]at hb2;refine C6 (Cs (F.run X.A X.stack s1 H1 ⟨us,[]⟩ us vs Q hr I1.env0 hb2 r q) fun r s' hq=> ?_);cases r with
 | error e=>exact hq.elim
 | ok fl =>
  cases fl with
  | ret u=>exact I1.after hq
  | next=>exact False.elim hq
  | brk=>exact False.elim hq
  | cont=>exact False.elim hq
end
end L2.XN
namespace IR
open PySem PySem.Spec PyProof.Rows L2 L2.XN
section
variable(cd:Nat->List PV->Option PV)(xd:Nat->List PV->Bool)(fu:Nat)(cn:Str)
end
section
variable{cd:Nat->List PV->Option PV}{xd:Nat->List PV->Bool}{fu:Nat}{cn:Str}{C:Addr}{E:XK}{X:Cx}{ct:Ct}{Hi:Hp}{τ:En}
end
section
variable{cd:Nat->List PV->Option PV}{xd:Nat->List PV->Bool}{fu:Nat}{cn:Str}{τ τ1:En}{s:IS}{ss:mQ}
end
section
variable{K:W.Frag}{mg:Str->Option Value}{P:Nat->Option FD}{F:List (Str×Nat)}{G:List (Str×PV)}{B:List Str}{p:Program}{w:World}{base:Heap}{k:Nat}
variable(hG:∀x v,G.lookup x=some v->∃u w,mg x=some u/\RelV w u/\∀Hi n H,Rp K Hi n v H w)(hB:∀x,B.contains x=true->mg x=none)
include hG hB
end
section
variable{K:W.Frag}{mg:Str->Option Value}{P:Nat->Option FD}{F0:List (Str×Nat)}{G0:List (Str×PV)}{B0:List Str}
end
end IR
namespace Law
open PySem PySem.Spec PyProof.Rows L2 IR
noncomputable def lB(i:Nat):Stmt:=PySem.Challenge.pw_unstruck_k05_texts_refused.main.body.getD i (.Pass ⟨0,0,0,0⟩)
noncomputable def F:List (Str×Nat):=[("is_side",0),("is_line",1),("is_board",2),("read_board",32),("_law_cell",4),("_law_mixed",5),("_law_board",35),("_law_whole",8),("_law_same",9),("_law_all_same",10),("_law_kinds",36),("_law_refused",37),("_law_spoiled",38),("_law_errors",39),("law",40)]
noncomputable def G:List (Str×PV):=[("CELL",(.str "x")),("HOLE",(.str ".")),("GREATEST_SIDE",(.int 8))]
noncomputable def B:List Str:=["len","int","list","tuple","all","isinstance","str","bool","range","zip","ValueError"]
noncomputable abbrev sI:Stmt:=clsB (lB 11) 0
noncomputable abbrev s0:Stmt:=lB 4
noncomputable abbrev N0:List Str:=["number"]
noncomputable abbrev s1:Stmt:=lB 5
noncomputable abbrev N1:List Str:=["thing"]
noncomputable abbrev s2:Stmt:=lB 6
noncomputable abbrev N2:List Str:=["thing"]
noncomputable abbrev n9:Stmt:=lB 14
noncomputable abbrev jX:List Str:=["text","board"]
noncomputable abbrev s4:Stmt:=lB 16
noncomputable abbrev N4:List Str:=["_law_script","_law_k"]
noncomputable abbrev s5:Stmt:=lB 17
noncomputable abbrev N5:List Str:=["_law_cell_here","_law_k","_law_number"]
noncomputable abbrev s35:Stmt:=lB 18
noncomputable abbrev N35:List Str:=["_law_head","_law_cell_here","_law_most","_law_tall","_law_columns","_law_thick","_law_lines","_law_row","_law_signs","_law_column","_law_place","_law_one"]
noncomputable abbrev s8:Stmt:=lB 20
noncomputable abbrev N8:List Str:=["_law_found"]
noncomputable abbrev s9:Stmt:=lB 21
noncomputable abbrev N9:List Str:=["_law_found","_law_due"]
noncomputable abbrev s10:Stmt:=lB 22
noncomputable abbrev N10:List Str:=["_law_found","_law_due","_law_one","_law_other"]
noncomputable abbrev zj:Stmt:=lB 23
noncomputable abbrev N36:List Str:=["_law_error","_law_some"]
noncomputable abbrev s37:Stmt:=lB 24
noncomputable abbrev N37:List Str:=["_law_thing","_law_kept","_law_error"]
noncomputable abbrev s38:Stmt:=lB 25
noncomputable abbrev N38:List Str:=["_law_board_here","_law_number","_law_row","_law_column","_law_sign","_law_signs","_law_line","_law_some"]
noncomputable abbrev yy:Stmt:=lB 26
noncomputable abbrev N39:List Str:=["_law_number","_law_some","_law_error","_law_k"]
noncomputable abbrev s40:Stmt:=lB 27
noncomputable abbrev N40:List Str:=["_law_script","_law_board_here","_law_number","_law_thing"]
noncomputable def d0:FD:=⟨1,1,
  (.cons (.ret [] (.chn .LtE .LtE (.con (.int 1)) (.var 0) (.con (.int 8))))
  .nil)⟩
noncomputable def d1:FD:=⟨1,1,
  (.cons (.ife (.or (.not (.val (.bf (.isin "str") (.cons (.var 0) .nil)))) (.not (.val (.call 0 (.cons (.bf .len (.cons (.var 0) .nil)) .nil))))) (.cons (.ret [] (.con (.bl false)))
  .nil) .nil)
  (.cons (.ret [] (.bf .all (.cons (.lc (.cmp .In (.var 0) (.tup (.cons (.con (.str "x")) (.cons (.con (.str ".")) .nil)))) (.seq (.var 0)) .no []) .nil)))
  .nil))⟩
noncomputable def d2:FD:=⟨1,1,
  (.cons (.ife (.or (.not (.val (.bf (.isin "tuple") (.cons (.var 0) .nil)))) (.not (.val (.call 0 (.cons (.bf .len (.cons (.var 0) .nil)) .nil))))) (.cons (.ret [] (.con (.bl false)))
  .nil) .nil)
  (.cons (.ife (.not (.val (.bf .all (.cons (.lc (.call 1 (.cons (.var 0) .nil)) (.seq (.var 0)) .no []) .nil)))) (.cons (.ret [] (.con (.bl false)))
  .nil) .nil)
  (.cons (.ret [] (.bf .all (.cons (.lc (.cmp .Eq (.bf .len (.cons (.var 0) .nil)) (.bf .len (.cons (.ix (.var 1) (.con (.int 0))) .nil))) (.seq (.var 0)) .no [0]) .nil)))
  .nil)))⟩
noncomputable def vQ:FD:=⟨2,1,
  (.cons (.drop (.call 20004 (.cons (.con .non) .nil))) (.cons (.hand 1 jx) .nil))⟩
noncomputable def d4:FD:=⟨2,2,
  (.cons (.ife (.val (.cmp .Lt (.var 1) (.bf .len (.cons (.var 0) .nil)))) (.cons (.ret [] (.ix (.var 0) (.var 1)))
  .nil) .nil)
  (.cons (.ret [] (.con (.int 0)))
  .nil))⟩
noncomputable def d5:FD:=⟨3,2,
  (.cons (.asg 2 false [] (.bin .Mod (.bin .Add (.bin .Add (.bin .Mult (.bin .Mod (.var 0) (.con (.int 2147483647))) (.con (.int 39373))) (.bin .Mult (.bin .Mult (.con (.int 7877)) (.var 1)) (.var 1))) (.con (.int 60493))) (.con (.int 2147483647))))
  (.cons (.asg 2 false [] (.bin .Mod (.bin .Mult (.var 2) (.var 2)) (.con (.int 2147483629))))
  (.cons (.ret [2,1,2] (.bin .Mod (.bin .Mult (.bin .Add (.bin .Mult (.var 2) (.con (.int 48271))) (.var 1)) (.var 2)) (.con (.int 2147483587))))
  .nil)))⟩
noncomputable def d35:FD:=⟨12,3,
  (.cons (.asg 3 false [] (.bin .Add (.con (.int 1)) (.bin .Mod (.var 0) (.var 2))))
  (.cons (.asg 4 false [] (.bin .Add (.con (.int 1)) (.bin .Mod (.bin .FloorDiv (.var 0) (.con (.int 8))) (.var 2))))
  (.cons (.asg 5 false [] (.bin .Add (.con (.int 1)) (.bin .Mod (.bin .FloorDiv (.var 0) (.con (.int 64))) (.con (.int 8)))))
  (.cons (.asg 6 true [] (.lst .nil))
  (.cons (.forr [7] true [] (.rng (.cons (.var 3) .nil)) (.cons (.asg 8 false [] (.con (.str "")))
  (.cons (.forr [9] true [] (.rng (.cons (.var 4) .nil)) (.cons (.asg 10 false [] (.bin .Add (.bin .Mult (.var 4) (.var 7)) (.var 9)))
  (.cons (.asg 11 false [] (.cmp .Eq (.bin .Mod (.bin .FloorDiv (.var 1) (.bin .LShift (.con (.int 1)) (.var 10))) (.con (.int 2))) (.con (.int 1))))
  (.cons (.ife (.val (.cmp .Lt (.var 1) (.bin .LShift (.con (.int 1)) (.con (.int 64))))) (.cons (.asg 11 false [] (.cmp .Lt (.bin .Mod (.call 5 (.cons (.var 1) (.cons (.var 10) .nil))) (.con (.int 8))) (.var 5)))
  .nil) .nil)
  (.cons (.asg 8 false [8] (.bin .Add (.var 8) (.ix (.lst (.cons (.con (.str ".")) (.cons (.con (.str "x")) .nil))) (.bf .int (.cons (.var 11) .nil)))))
  .nil)))))
  (.cons (.app 6 [8] (.var 8))
  .nil))))
  (.cons (.ret [6] (.bf .tuple (.cons (.var 6) .nil)))
  .nil))))))⟩
noncomputable def d8:FD:=⟨1,1,
  (.cons (.ret [] (.and (.bf (.isin "int") (.cons (.var 0) .nil)) (.not (.bf (.isin "bool") (.cons (.var 0) .nil)))))
  .nil)⟩
noncomputable def d9:FD:=⟨2,2,
  (.cons (.ife (.val (.cmp .Is (.var 1) (.con .non))) (.cons (.ret [] (.cmp .Is (.var 0) (.con .non)))
  .nil) .nil)
  (.cons (.ife (.val (.bf (.isin "tuple") (.cons (.var 1) .nil))) (.cons (.ret [] (.and (.bf (.isin "tuple") (.cons (.var 0) .nil)) (.and (.cmp .Eq (.bf .len (.cons (.var 0) .nil)) (.bf .len (.cons (.var 1) .nil))) (.call 10 (.cons (.bf .list (.cons (.var 0) .nil)) (.cons (.bf .list (.cons (.var 1) .nil)) .nil))))))
  .nil) .nil)
  (.cons (.ife (.val (.bf (.isin "list") (.cons (.var 1) .nil))) (.cons (.ret [] (.and (.bf (.isin "list") (.cons (.var 0) .nil)) (.and (.cmp .Eq (.bf .len (.cons (.var 0) .nil)) (.bf .len (.cons (.var 1) .nil))) (.call 10 (.cons (.var 0) (.cons (.var 1) .nil))))))
  .nil) .nil)
  (.cons (.ife (.val (.bf (.isin "str") (.cons (.var 1) .nil))) (.cons (.ret [] (.and (.bf (.isin "str") (.cons (.var 0) .nil)) (.cmp .Eq (.var 0) (.var 1))))
  .nil) .nil)
  (.cons (.ret [] (.and (.call 8 (.cons (.var 0) .nil)) (.cmp .Eq (.var 0) (.var 1))))
  .nil)))))⟩
noncomputable def d10:FD:=⟨4,2,
  (.cons (.forr [2,3] false [0,1] (.zip (.var 0) (.var 1)) (.cons (.ife (.not (.val (.call 9 (.cons (.var 2) (.cons (.var 3) .nil))))) (.cons (.ret [] (.con (.bl false)))
  .nil) .nil)
  .nil))
  (.cons (.ret [] (.con (.bl true)))
  .nil))⟩
noncomputable def d36:FD:=⟨2,1,
  (.cons .never .nil)⟩
noncomputable def d37:FD:=⟨3,1,
  (.cons (.drop (.call 20020 (.cons (.con .non) .nil))) (.cons (.hand 1 mf) .nil))⟩
noncomputable def lD:FD:=⟨8,2,
  (.cons (.asg 2 false [] (.bin .Mod (.var 1) (.bf .len (.cons (.var 0) .nil))))
  (.cons (.asg 3 false [] (.bin .Mod (.bin .FloorDiv (.var 1) (.con (.int 8))) (.bf .len (.cons (.ix (.var 0) (.con (.int 0))) .nil))))
  (.cons (.asg 4 false [] (.ix (.lst (.cons (.con (.str "X")) (.cons (.con (.str " ")) (.cons (.con (.str "o")) (.cons (.con (.str "-")) (.cons (.con (.str ",")) (.cons (.con (.str "1")) (.cons (.con (.str "_")) (.cons (.con (.str "~")) .nil))))))))) (.bin .Mod (.bin .FloorDiv (.var 1) (.con (.int 64))) (.con (.int 8)))))
  (.cons (.asg 5 false [] (.mth .join (.con (.str "\n")) (.cons (.var 0) .nil)))
  (.cons (.asg 6 false [] (.bin .Add (.bin .Add (.sl (.ix (.var 0) (.var 2)) .no (.yes (.var 3))) (.var 4)) (.sl (.ix (.var 0) (.var 2)) (.yes (.bin .Add (.var 3) (.con (.int 1)))) .no)))
  (.cons (.asg 7 true [] (.lst (.cons (.mth .join (.con (.str "\n")) (.cons (.bin .Add (.bin .Add (.sl (.var 0) .no (.yes (.var 2))) (.tup (.cons (.var 6) .nil))) (.sl (.var 0) (.yes (.bin .Add (.var 2) (.con (.int 1)))) .no)) .nil)) (.cons (.bin .Add (.var 5) (.con (.str "\n"))) (.cons (.bin .Add (.con (.str "\n")) (.var 5)) (.cons (.bin .Add (.var 5) (.con (.str " "))) (.cons (.bin .Add (.con (.str " ")) (.var 5)) .nil)))))))
  (.cons (.asg 7 true [7] (.bin .Add (.var 7) (.lst (.cons (.mth .join (.con (.str "\n")) (.cons (.bin .Add (.bin .Add (.sl (.var 0) .no (.yes (.var 2))) (.tup (.cons (.con (.str "")) .nil))) (.sl (.var 0) (.yes (.var 2)) .no)) .nil)) (.cons (.mth .join (.con (.str "\n")) (.cons (.lc (.bin .Add (.var 0) (.bin .Mult (.con (.str "x")) (.con (.int 8)))) (.seq (.var 0)) .no []) .nil)) .nil)))))
  (.cons (.asg 7 true [7] (.bin .Add (.var 7) (.lst (.cons (.bin .Add (.var 5) (.bin .Mult (.bin .Add (.con (.str "\n")) (.ix (.var 0) (.con (.int 0)))) (.con (.int 8)))) (.cons (.bin .Add (.bin .Add (.bin .Add (.var 5) (.con (.str "\n"))) (.ix (.var 0) (.con (.int 0)))) (.con (.str "x"))) (.cons (.con (.str "")) (.cons (.con .non) (.cons (.con (.int 0)) (.cons (.con (.bl true)) (.cons (.var 0) (.cons (.lst (.cons (.var 5) .nil)) (.cons .dnew .nil))))))))))))
  (.cons (.ife (.val (.cmp .Gt (.bf .len (.cons (.ix (.var 0) (.con (.int 0))) .nil)) (.con (.int 1)))) (.cons (.app 7 [] (.bin .Add (.bin .Add (.var 5) (.con (.str "\n"))) (.sl (.ix (.var 0) (.con (.int 0))) (.yes (.con (.int 1))) .no)))
  .nil) .nil)
  (.cons (.ret [7] (.var 7))
  .nil))))))))))⟩
noncomputable def d39:FD:=⟨4,1,
  (.cons (.drop (.call 20020 (.cons (.con .non) .nil))) (.cons (.hand 1 Ab) .nil))⟩
noncomputable def d40:FD:=⟨4,1,
  (.cons (.asg 1 false [] (.call 35 (.cons (.call 4 (.cons (.var 0) (.cons (.con (.int 0)) .nil))) (.cons (.call 4 (.cons (.var 0) (.cons (.con (.int 1)) .nil))) (.cons (.con (.int 8)) .nil)))))
  (.cons (.asg 2 false [] (.call 5 (.cons (.call 4 (.cons (.var 0) (.cons (.con (.int 2)) .nil))) (.cons (.con (.int 2)) .nil))))
  (.cons (.forr [3] true [] (.seq (.call 38 (.cons (.var 1) (.cons (.var 2) .nil)))) (.cons (.ife (.not (.val (.call 37 (.cons (.var 3) .nil)))) (.cons (.ret [] (.con (.bl false)))
  .nil) .nil)
  .nil))
  (.cons (.ret [] (.and (.call 39 (.cons (.var 2) .nil)) (.call 9 (.cons (.call 32 (.cons (.mth .join (.con (.str "\n")) (.cons (.var 1) .nil)) .nil)) (.cons (.var 1) .nil)))))
  .nil))))⟩
noncomputable def P:Nat->Option FD:=fun n=>match n with
 | 0=>some d0
 | 1=>some d1
 | 2=>some d2
 | 4=>some d4
 | 5=>some d5
 | 8=>some d8
 | 9=>some d9
 | 10=>some d10
 | 32=>some vQ
 | 35=>some d35
 | 36=>some d36
 | 37=>some d37
 | 38=>some lD
 | 39=>some d39
 | 40=>some d40
 | 20000=>some ⟨1,1,.cons (.ret [] (.con .non)) .nil⟩
 | 20001=>some ⟨1,1,.cons (.ret [] (.call 20000 (.cons (.con .non) .nil))) .nil⟩
 | 20002=>some ⟨1,1,.cons (.ret [] (.call 20001 (.cons (.con .non) .nil))) .nil⟩
 | 20003=>some ⟨1,1,.cons (.ret [] (.call 20002 (.cons (.con .non) .nil))) .nil⟩
 | 20004=>some ⟨1,1,.cons (.ret [] (.call 20003 (.cons (.con .non) .nil))) .nil⟩
 | 20005=>some ⟨1,1,.cons (.ret [] (.call 20004 (.cons (.con .non) .nil))) .nil⟩
 | 20006=>some ⟨1,1,.cons (.ret [] (.call 20005 (.cons (.con .non) .nil))) .nil⟩
 | 20007=>some ⟨1,1,.cons (.ret [] (.call 20006 (.cons (.con .non) .nil))) .nil⟩
 | 20008=>some ⟨1,1,.cons (.ret [] (.call 20007 (.cons (.con .non) .nil))) .nil⟩
 | 20009=>some ⟨1,1,.cons (.ret [] (.call 20008 (.cons (.con .non) .nil))) .nil⟩
 | 20010=>some ⟨1,1,.cons (.ret [] (.call 20009 (.cons (.con .non) .nil))) .nil⟩
 | 20011=>some ⟨1,1,.cons (.ret [] (.call 20010 (.cons (.con .non) .nil))) .nil⟩
 | 20012=>some ⟨1,1,.cons (.ret [] (.call 20011 (.cons (.con .non) .nil))) .nil⟩
 | 20013=>some ⟨1,1,.cons (.ret [] (.call 20012 (.cons (.con .non) .nil))) .nil⟩
 | 20014=>some ⟨1,1,.cons (.ret [] (.call 20013 (.cons (.con .non) .nil))) .nil⟩
 | 20015=>some ⟨1,1,.cons (.ret [] (.call 20014 (.cons (.con .non) .nil))) .nil⟩
 | 20016=>some ⟨1,1,.cons (.ret [] (.call 20015 (.cons (.con .non) .nil))) .nil⟩
 | 20017=>some ⟨1,1,.cons (.ret [] (.call 20016 (.cons (.con .non) .nil))) .nil⟩
 | 20018=>some ⟨1,1,.cons (.ret [] (.call 20017 (.cons (.con .non) .nil))) .nil⟩
 | 20019=>some ⟨1,1,.cons (.ret [] (.call 20018 (.cons (.con .non) .nil))) .nil⟩
 | 20020=>some ⟨1,1,.cons (.ret [] (.call 20019 (.cons (.con .non) .nil))) .nil⟩
 | _=>none
end Law
namespace Law
open PySem IR L2
local macro_rules | `(tactic| walk_at "ev") => do
  let ids <- ("sc Option.bind_some Option.map_some Option.bind_none List.length_cons List.length_nil if_true if_false Nat.reduceAdd Nat.reduceSub List.map_cons List.map_nil List.replicate List.append_nil List.cons_append List.nil_append imm imms eO gY lu lq rm rq xk List.getD_cons_zero List.getD_cons_succ tj bL bN bK bj bu bo bt bZ bn bg bh bc ba bW bi pH k9 vt vq pP tQ tP zI vp wT wS bR tY rQ uw uv vL yF yG rO nK rg oi vG vH yH vd vZ vb va vY vc yX yY vT vS List.set_cons_zero List.set_cons_succ zx xG cP tm pY sj uD uC uE ya vf ve sq sr ou jv ju iZ yb setU ix_L ix_T ix_O ib bv wd wc wf wg l6 l9 l5 l7 ly eq_self decide_true decide_false kU jB kR lh kT kQ kS kP lg jA i8 i9 gv i7 gx gu gw gt i6 reduceCtorEq bne_self_eq_false beq_self_eq_true Bool.true_bne Bool.bne_true Bool.false_bne Bool.bne_false LN Nat.reduceLeDiff Nat.reduceLT Nat.reducePow Int.reduceLT Int.reduceLE Int.reducePow Int.reduceNeg Int.natAbs_one and_self true_and and_true or_true true_or reduceIte Bool.not_true Bool.not_false Bool.and_true Bool.or_true Bool.or_false Bool.true_or Bool.false_or Bool.true_and Bool.and_false Bool.false_and Bool.false_eq_true keeps kE kB List.getElem?_cons_zero List.getElem?_cons_succ".splitOn " ").toArray.mapM fun s => do
   let i := Lean.mkIdent s.toName
   `(Lean.Parser.Tactic.simpLemma| $i:ident)
  `(tactic| (try simp -implicitDefEqProofs only [$ids,*]))
local macro_rules | `(tactic| walk_at "go") => `(tactic| (walk_at "ev"; repeat (rw [BK (by first | omega | assumption | decide)]; walk_at "ev")))
theorem c0(k:Nat)(n:Int):aB P (k+1) 0 [.int n]=some (.bl (cG n)):=by
 refine run rfl rfl ?_;simp only[d0,entry];walk_at "ev";unfold cG;cases decide (1<=n)<;>rfl
noncomputable def iC(c:Nat):Bool:=decide (c=120)||decide (c=46)
noncomputable def ci:PV->Bool
 | .str z=>cG z.length&&z.cps.toList.all iC
 | _=>false
noncomputable def kn:PV->Bool
 | .str z=>decide (z.length<=LN)
 | .dT _ _=>false
 | _=>true
theorem eq_x(c:Nat):decide (("x":Str)=⟨#[c]⟩)=decide (c=120):=by
 have:=nB 120 c;rw[show(⟨#[120]⟩:Str)="x" from rfl]at this;rw[this,CY];exact⟨Eq.symm,Eq.symm⟩
theorem yP(c:Nat):decide ((".":Str)=⟨#[c]⟩)=decide (c=46):=by
 have:=nB 46 c;rw[show(⟨#[46]⟩:Str)="." from rfl]at this;rw[this,CY];exact⟨Eq.symm,Eq.symm⟩
theorem dD{α:Type}(f:α->Bool):∀l:List α,eE (l.map fun x=>PV.bl (f x))=some (l.map f)
 | []=>rfl
 | x::l=>by rw[BZ,eE,dD f l];rfl
theorem c1(k:Nat)(v:PV)(h:kn v=true):aB P (k+2) 1 [v]=some (.bl (ci v)):=by
 refine run rfl rfl ?_;cases v with
 | str z =>
  have hz:z.length<=LN:=Bs h;simp only[d1,entry];walk_at "ev";simp only[len_str,hz,CK];walk_at "ev";rw[c0];walk_at "ev";cases hs:cG z.length with
  | false =>
   walk_at "ev";simp[ci,hs]
  | true =>
   walk_at "ev";have hl:(signs z).length<=LN:=by rw[eH];exact hz
   simp only[hl,CK];rw[show signs z=z.cps.toList.map fun c=>PV.str ⟨#[c]⟩from rfl,dZ (g:=fun c=>PV.bl (iC c)) (fun c hc=> ?h)]
   case h =>
    walk_at "go";have e:ar .In (.str ⟨#[c]⟩) (.tup [.str "x",.str "."])=some (iC c):=by
     show some (sE (.str "x") (.str ⟨#[c]⟩)||(sE (.str ".") (.str ⟨#[c]⟩)||false))=_;rw[Bool.or_false];show some (decide (("x":Str)=⟨#[c]⟩)||decide ((".":Str)=⟨#[c]⟩))=_;rw[eq_x,yP];rfl
    rw[e];rfl
   walk_at "ev";rw[dD];walk_at "ev";simp[ci,hs,List.all_map]
 | dT ks vs=>cases h
 | _ =>
  simp only[d1,entry];walk_at "ev";rfl
noncomputable def gh:PV->Bool
 | .tup xs=>cG xs.length&&(xs.all ci&&xs.all fun x=>decide ((bJ x).getD 0=(bJ (xs.getD 0 .non)).getD 0))
 | _=>false
theorem oU{x:PV}(h:ci x=true):∃z,x=.str z/\1<=z.length/\z.length<=8:=by
 cases x with
 | str z =>
  have h:(cG z.length&&_)=true:=h;rw[BB]at h;unfold cG at h;rw[BB]at h;have h1:=Bs h.1.1;have h2:=Bs h.1.2;exact⟨z,rfl,by omega,by omega⟩
 | _=>cases h
theorem c2(k:Nat)(v:PV)(h:kn v=true)(hk:∀xs,v=.tup xs->∀x∈xs,kn x=true):aB P (k+3) 2 [v]=some (.bl (gh v)):=by
 refine run rfl rfl ?_;cases v with
 | tup xs =>
  have hk:=hk xs rfl;simp only[d2,entry];walk_at "ev";rw[c0];walk_at "ev";cases hs:cG xs.length with
  | false =>
   walk_at "ev";simp[gh,hs]
  | true =>
   walk_at "ev";have hs' :=hs;unfold cG at hs';rw[BB]at hs';have b1:=Bs hs'.1;have b2:=Bs hs'.2;have hz:xs.length<=LN:=by show xs.length<=16777216;omega
   simp only[hz,CK];rw[eQ (n:=true) (g:=fun x=>PV.bl (ci x)) (fun x hx=>by walk_at "ev";rw[c1 _ _ (hk x hx)];rfl)];walk_at "ev";rw[dD];walk_at "ev";rw[List.all_map];cases ha:xs.all (id∘ci)with
   | false =>
    walk_at "ev";have ha:xs.all ci=false:=ha;simp[gh,ha]
   | true =>
    walk_at "ev";have ha:xs.all ci=true:=ha;have hl:∀x∈xs,∃z,x=.str z/\1<=z.length/\z.length<=8:=fun x hx=>oU (Bl.mp ha x hx);obtain⟨x0,hx0⟩:∃x,xs[0]? =some x:=⟨xs[0]'(by omega),by simp⟩;obtain⟨z0,rfl,z1,z2⟩:=hl x0 (Bo hx0);have e0:dN xs 0=some (.str z0):=fi (j:=0) hx0;have zL:z0.length<=LN:=by show z0.length<=16777216;omega
    simp only[hz,CK];rw[eQ (n:=true) (g:=fun x=>PV.bl (decide ((bJ x).getD 0=(bJ (xs.getD 0 .non)).getD 0))) (fun x hx=> ?h)]
    case h =>
     obtain⟨z,rfl,y1,y2⟩:=hl x hx;have yL:z.length<=LN:=by show z.length<=16777216;omega
     have g0:xs.getD 0 .non=.str z0:=by rw[Bj,hx0];rfl
     try simp only[List.getD_cons_zero]
     walk_at "ev";simp only[len_str,yL,e0,CK];walk_at "ev";simp only[len_str,zL,CK];walk_at "ev";rw[g0];simp only[len_str,yL,zL,CK,Option.getD_some];have e:decide ((z.length:Int)=(z0.length:Int))=decide (z.length=z0.length):=by
      rw[CY];omega
     rw[e]
    walk_at "ev";rw[dD];walk_at "ev";simp[gh,hs,ha,List.all_map]
 | dT ks vs=>cases h
 | _ =>
  simp only[d2,entry];walk_at "ev";rfl
theorem c4(k:Nat)(ns:List Int)(j:Nat):aB P (k+1) 4 [.lst (ns.map .int),.int j]=some (.int (ns.getD j 0)):=by
 refine run rfl rfl ?_;simp only[d4,entry];walk_at "ev"
 by_cases h:j<ns.length
 ·have h1:(j:Int)<((ns.map PV.int).length:Nat):=by rw[BJ];omega
  have h2:dN (ns.map PV.int) (j:Int)=some (.int ns[j]):=fi (by rw[Bi,BU h];rfl);simp only[h1,decide_true,CK,h2];walk_at "ev";simp[h]
 ·have h1:¬(j:Int)<((ns.map PV.int).length:Nat):=by rw[BJ];omega
  simp only[h1,decide_false];walk_at "ev";simp[h]
theorem c5(k:Nat)(c j:Int)(h0:0<=j)(h1:j<=1000000):∃r:Int,0<=r/\r<2147483587/\aB P (k+1) 5 [.int c,.int j]=some (.int r):=by
 obtain⟨v,h,r,h2,h3,rfl⟩:∃v,aB P (k+1) 5 [.int c,.int j]=some v/\∃r:Int,0<=r/\r<2147483587/\v=.int r:=by
  refine qD rfl rfl ?_;simp only[d5,entry];walk_at "go";exact⟨_,rfl,_,Cz _ (by decide),Ci _ (by decide),rfl⟩
 exact⟨r,h2,h3,h⟩
theorem wZ{rows:List Str}{i:Nat}{z:Str}(h:rows[i]? =some z):dN (rows.map PV.str) (i:Int)=some (.str z):=fi (by rw[Bi,h];rfl)
noncomputable def kz(z:Str)(n:Nat):Prop:=z.length=n/\∀c∈z.cps.toList,c=120\/c=46
theorem kz.more{z:Str}{n:Nat}(h:kz z n){y:Str}(hy:y=("x":Str)\/y=(".":Str)):kz (z++y) (n+1):=by
 refine⟨?_,fun c hc=> ?_⟩
 ·rw[BQ,h.1]
  rcases hy with rfl|rfl<;>rfl
 ·rw[PySem.Str.cps_append,Array.toList_append,Bq]at hc
  rcases hc with hc|hc
  ·exact h.2 c hc
  ·rcases hy with rfl|rfl
   ·have:c∈[120]:=hc
    simp at this;exact .inl this
   ·have:c∈[46]:=hc
    simp at this;exact .inr this
noncomputable def pick(b:Bool):Str:=if b then "x" else "."
theorem uX(b:Bool):dN [PV.str ".",PV.str "x"] (if b then 1 else 0)=some (.str (pick b)):=by cases b<;>rfl
theorem qU(b:Bool):(pick b).length=1:=by cases b<;>rfl
theorem oF(b:Bool):pick b=("x":Str)\/pick b=(".":Str):=by cases b;exact .inr rfl;exact .inl rfl
theorem xI{j:Int}(h0:0<=j)(h1:j<=100):(0:Int)<1*2^j.toNat/\(1:Int)*2^j.toNat<2^200:=by
 have hp:(0:Int)<2^j.toNat:=Int.pow_pos (by decide);refine⟨by omega,?_⟩;have h2:(2:Nat)^j.toNat<2^200:=Nat.pow_lt_pow_right (by decide) (by omega);rw[Int.one_mul]
 exact_mod_cast h2
noncomputable abbrev bI1(x c R C TH:Int)(m i:Nat)(τ:En):Prop:=∃(rs:List Str)(a b d e g:TV),τ=[.frz (.int x) true,.frz (.int c) true,.frz (.int m) true,.frz (.int R) true,.frz (.int C) true,.frz (.int TH) true,.own (rs.map .str) true,a,b,d,e,g]/\rs.length=i/\∀r∈rs,kz r C.toNat
noncomputable abbrev bI2(x c R C TH:Int)(m:Nat)(rs:List Str)(i:Int)(j:Nat)(τ:En):Prop:=∃(z:Str)(d e g:TV),τ=[.frz (.int x) true,.frz (.int c) true,.frz (.int m) true,.frz (.int R) true,.frz (.int C) true,.frz (.int TH) true,.own (rs.map .str) true,.frz (.int i) true,.frz (.str z) true,d,e,g]/\kz z j
theorem c35(k:Nat)(x c:Int)(m:Nat)(m1:1<=m)(m8:m<=8):∃v,aB P (k+2) 35 [.int x,.int c,.int m]=some v/\∃rows:List Str,UM.aU m rows/\v=.tup (rows.map .str):=by
 have r1:0<=x%(m:Int):=Cz _ (by omega);have r2:x%(m:Int)<m:=Ci _ (by omega);have q1:0<=x/8%(m:Int):=Cz _ (by omega);have q2:x/8%(m:Int)<m:=Ci _ (by omega);have hm:(0:Int)<m:=by omega
 refine qD rfl rfl ?_;simp only[d35,entry];walk_at "go";obtain⟨R,hR⟩:∃R,R=1+x%(m:Int):=⟨_,rfl⟩;obtain⟨C,hC⟩:∃C,C=1+x/8%(m:Int):=⟨_,rfl⟩;obtain⟨TH,hT⟩:∃TH,TH=1+x/64%8:=⟨_,rfl⟩;rw[<- hR,<-hC,<-hT];refine nU (xs:=(List.range R.toNat).map fun i=>.int (0+(i:Nat))) (n:=true) ?_ (bI1 x c R C TH m) ?_ ?_ ?_
 ·walk_at "ev"
  simp only[oA,bR];rw[BK ⟨by omega,by omega⟩];rfl
 ·exact⟨[],.un,.un,.un,.un,.un,rfl,rfl,fun r hr=>by cases hr⟩
 ·rintro i y τ hy ⟨rs,a,b,d,e,g,rfl,hl,hsg⟩
  obtain⟨hi,rfl⟩:=jz hy;refine⟨_,rfl,?_⟩;walk_at "ev";refine nU (xs:=(List.range C.toNat).map fun i=>.int (0+(i:Nat))) (n:=true) ?_ (bI2 x c R C TH m rs i) ?_ ?_ ?_
  ·walk_at "ev"
   simp only[oA,bR];rw[BK ⟨by omega,by omega⟩];rfl
  ·exact⟨_,d,e,g,rfl,rfl,fun c hc=>by cases hc⟩
  ·rintro j y τ hy ⟨z,d,e,g,rfl,hz⟩
   obtain⟨hj,rfl⟩:=jz hy;refine⟨_,rfl,?_⟩;have hp:0<=C*(i:Int)+(j:Int)/\C*(i:Int)+(j:Int)<=100:=by
    have e1:(0:Int)<=C*(i:Int):=Int.mul_nonneg (by omega) (by omega);have e2:C*(i:Int)<=8*8:=Int.mul_le_mul (by omega) (by omega) (by omega) (by omega);omega
   have hz1:=hz.1;have hzL:∀b,z.length+(pick b).length<=LN:=fun b=>by rw[qU];show z.length+1<=16777216;omega
   have hp2:=xI hp.1 hp.2;walk_at "go"
   have fin:∀(b:Bool)(τ:En),τ=[.frz (.int x) true,.frz (.int c) true,.frz (.int m) true,.frz (.int R) true,.frz (.int C) true,.frz (.int TH) true,.own (rs.map .str) true,.frz (.int i) true,.frz (.str z) true,.frz (.int j) true,.frz (.int (C*(i:Int)+(j:Int))) true,.frz (.bl b) true] ->
     To (al (aB P (k+1)) 1000000 (.cons (.asg 8 false [] (.bin .Add (.var 8) (.ix (.lst (.cons (.con (.str ".")) (.cons (.con (.str "x")) .nil))) (.bf .int (.cons (.var 11) .nil))))) .nil) τ) fun f=>match f with
      | .nx τ2=>bI2 x c R C TH m rs i (j+1) τ2
      | _=>False:=by
    rintro b τ rfl;have:=hzL b;walk_at "go";rw[uX];walk_at "go";exact⟨_,_,_,_,rfl,hz.more (oF b)⟩
   split
   ·obtain⟨q,b1,b2,e5⟩:=c5 k c (C*(i:Int)+(j:Int)) hp.1 (by omega)
    walk_at "ev";rw[e5];walk_at "go";refine(fin _ _ rfl).imp fun f h=> ?_;cases f<;>first|exact h|exact h.elim
   ·walk_at "ev"
    refine(fin _ _ rfl).imp fun f h=> ?_;cases f<;>first|exact h|exact h.elim
  ·rintro τ ⟨z,d,e,g,rfl,hz⟩
   rw[me]at hz;walk_at "ev";rw[j2 rfl (by rw[BJ];show rs.length<16777216;omega)];walk_at "ev";refine⟨rs++[z],_,_,_,_,_,by rw[List.map_append];rfl,by rw[BL,hl];rfl,fun r hr=> ?_⟩
   rcases Bq.mp hr with h|h
   ·exact hsg r h
   ·have e' :r=z:=by simpa using h
    rw[e'];exact hz
 ·rintro τ ⟨rs,a,b,d,e,g,rfl,hl,hsg⟩
  rw[me]at hl;walk_at "ev";refine⟨_,rfl,rs,⟨?_,by omega,⟨C.toNat,by omega,by omega,fun r hr=>(hsg r hr).1⟩,fun r hr=>(hsg r hr).2⟩,rfl⟩;intro z;rw[z]at hl;simp at hl;omega
theorem c8(k:Nat)(i:Int):aB P (k+1) 8 [.int i]=some (.bl true):=by
 refine run rfl rfl ?_;simp only[d8,entry];walk_at "ev"
noncomputable def plain:PV->Bool
 | .non=>true| .int _=>true| .str _=>true
 | .lst xs=>plains xs
 | .tup xs=>plains xs
 | _=>false
where plains:List PV->Bool
 | []=>true
 | x::xs=>plain x&&plains xs
noncomputable def depth:PV->Nat
 | .lst xs=>depths xs+1
 | .tup xs=>depths xs+1
 | _=>1
where depths:List PV->Nat
 | []=>0
 | x::xs=>max (depth x) (depths xs)
theorem gG:∀{xs:List PV}{x:PV},plain.plains xs=true->x∈xs->plain x=true
 | [],_,_,h=>by cases h
 | y::ys,x,h,hx=>by
  rw[plain.plains,BB]at h
  rcases BP.mp hx with rfl|hx
  ·exact h.1
  ·exact gG h.2 hx
theorem gb:∀{xs:List PV}{x:PV},x∈xs->depth x<=depth.depths xs
 | [],_,h=>by cases h
 | y::ys,x,hx=>by
  rw[depth.depths]
  rcases BP.mp hx with rfl|hx
  ·exact Nat.le_max_left _ _
  ·exact Ba (gb hx) (Nat.le_max_right _ _)
theorem c10(k:Nat)(xs:List PV)(h:∀x∈xs,aB P k 9 [x,x]=some (.bl true)):aB P (k+1) 10 [.lst xs,.lst xs]=some (.bl true):=by
 refine wA rfl rfl ?_;simp only[d10,entry];walk_at "ev";refine nU (xs:=List.zipWith mv xs xs) (n:=false) ?_ (fun i τ=>∃a b,τ=[.frz (.lst xs) false,.frz (.lst xs) false,a,b]) ⟨_,_,rfl⟩ ?_ ?_
 ·walk_at "ev"
  simp only[pM,ut,CK,B8];rfl
 ·rintro i y τ hy ⟨a,b,rfl⟩
  rw[List.getElem?_zipWith]at hy;cases e:xs[i]? with
  | none=>rw[e]at hy;cases hy
  | some x =>
   rw[e]at hy;cases hy;refine⟨_,rfl,?_⟩;walk_at "ev";rw[h x (Bo e)];walk_at "ev";exact⟨_,_,rfl⟩
 ·rintro τ ⟨a,b,rfl⟩
  walk_at "ev"
theorem c9(n k:Nat)(v:PV)(hd:depth v<=n)(hp:plain v=true):aB P (2*n+k) 9 [v,v]=some (.bl true):=by
 induction n generalizing v with
 | zero =>
  cases v with
  | non=>(simp[depth]at hd)
  | bl b=>cases hp
  | int i=>(simp[depth]at hd)
  | str z=>(simp[depth]at hd)
  | lst xs=>(simp[depth]at hd)
  | tup xs=>(simp[depth]at hd)
  | dK _ _=>cases hp
  | dT _ _=>cases hp
 | succ n ih =>
  have e:2*(n+1)+k=(2*n+k+1)+1:=by omega
  rw[e];have inner:∀xs:List PV,depth.depths xs<=n->plain.plains xs=true->aB P (2*n+k+1) 10 [.lst xs,.lst xs]=some (.bl true):=fun xs h1 h2=>c10 _ xs fun x hx=>ih x (Ba (gb hx) h1) (gG h2 hx);refine run rfl rfl ?_;cases v with
  | non =>
   simp only[d9,entry];walk_at "ev"
  | bl b=>cases hp
  | int i =>
   simp only[d9,entry];walk_at "ev";rw[c8];walk_at "ev"
  | str z =>
   simp only[d9,entry];walk_at "ev"
  | lst xs =>
   simp only[d9,entry];walk_at "ev";rw[inner xs (by simpa [depth]using hd) (by simpa [plain]using hp)];walk_at "ev"
  | tup xs =>
   simp only[d9,entry];walk_at "ev";rw[inner xs (by simpa [depth]using hd) (by simpa [plain]using hp)];walk_at "ev"
  | dK _ _=>cases hp
  | dT _ _=>cases hp
section
open PySem.Spec PyProof.Rows L2.XN XE
structure tN(K:W.Frag)(mg:Str->Option Value)(C D c1 c2 c3 fI:Addr)(fd:FuncData):Prop where
 mx:wP K C fI "rows"
 kC:tH K mg "NoStair" C
 kD:tH K mg "BoardError" D
 k1:tH K mg "NoBoard" c1
 k2:tH K mg "NoPlacing" c2
 k3:tH K mg "TooGreat" c3
 sC:W.subIn K (.ref C) (.ref C)=some true
 sD:W.subIn K (.ref C) (.ref D)=some true
 sB:W.subIn K (.ref D) (.type "BaseException")=some true
 sV:W.subIn K (.ref C) (.type "ValueError")=some true
 s1:W.subIn K (.ref C) (.ref c1)=some false
 s2:W.subIn K (.ref C) (.ref c2)=some false
 s3:W.subIn K (.ref C) (.ref c3)=some false
 n1:C≠c1
 n2:C≠c2
 n3:C≠c3
 fn:∃(oc kV doc pm cdv ct oc' :Value)(od an od' :Option Addr)(osl osl' :Array (Option Value))(T:Addr)(n:Nat),fd=W.fnOf "__init__" "NoStair.__init__" (bC sI) (aZ sI) (aH sI) (.ref T) kV doc pm an cdv ct/\K.lookup fI=some ⟨oc,od,.func fd,osl⟩/\W.codeIn K cdv "NoStair.__init__"=true/\K.lookup T=some ⟨oc',od',.seq #[.none] n,osl'⟩
noncomputable abbrev NI:List Str:=["self","rows"]
theorem pI:ax NI NI (aH sI):=⟨rfl,rfl,rfl,by decide +kernel,rfl,by decide +kernel,by decide +kernel⟩
noncomputable def spI(K:W.Frag)(fI:Addr):Sp:=fun vs H Q _=>∃e C y,vs=[.ref e,y]/\H e=some (XN C none e)/\wP K C fI "rows"/\∀d,H d=none->d≠e->Q .non (upd (upd H e (XN C (some d) e)) d (.xd [("rows",y)]))
section
variable{K:W.Frag}{mg:Str->Option Value}{C D c1 c2 c3 fI:Addr}{fd:FuncData}(cl:tN K mg C D c1 c2 c3 fI fd){p:Program}{w:World}{base:Heap}{k:Nat}
include cl
theorem vB:ah p w K mg base cY (k+1) fI fd NI (spI K fI):=by
 obtain⟨oc,kV,doc,pm,cdv,ct,oc',od,an,od',osl,osl',T,n,rfl,lk,hcd,_⟩:=cl.fn;refine ri lk hcd pI (fun vs H Q E h=> ?_) fun A outer s H vs Q E hr h=> ?_
 ·obtain⟨e,C,y,rfl,_⟩:=h
  rfl
 ·obtain⟨e,C,y,rfl,he,M,q⟩:=h
  refine⟨_,bT (uM (pv 0) (pv 1) rfl),?_⟩;exact⟨y,rfl,_,rfl,e,C,fI,rfl,he,M,fun d hd hn=>q d hd hn⟩
end
end
section
open PySem.Spec PyProof.Rows L2.XN XE
structure yr(K:W.Frag)(X D c1 c2 C c3:Addr)(b1 b2 b3 b4:Bool):Prop where
 xc:XC K X
 kD:W.kitOne K (.ref X) (.ref D)=some true
 kV:W.kitOne K (.ref X) (.type "ValueError")=some true
 k1:W.kitOne K (.ref X) (.ref c1)=some b1
 k2:W.kitOne K (.ref X) (.ref c2)=some b2
 k3:W.kitOne K (.ref X) (.ref C)=some b3
 k4:W.kitOne K (.ref X) (.ref c3)=some b4
structure tM(K:W.Frag)(mg:Str->Option Value)(C D c1 c2 c3 fI:Addr)(fd:FuncData):Prop where
 cs:tN K mg C D c1 c2 c3 fI fd
 q1:W.excIn K c1 bmV "ValueError.__new__"=true
 q2:W.excIn K c2 bmV "ValueError.__new__"=true
 q3:W.excIn K c3 bmV "ValueError.__new__"=true
 p1:W.keepIn K (.ref c1)=true
 p2:W.keepIn K (.ref c2)=true
 p3:W.keepIn K (.ref c3)=true
 s1:W.subIn K (.ref c1) (.ref D)=some true
 n1:yr K c1 D c1 c2 C c3 true false false false
 n2:yr K c2 D c1 c2 C c3 false true false false
 nC:yr K C D c1 c2 C c3 false false true false
 n3:yr K c3 D c1 c2 C c3 false false false true
theorem v9:ax N36 ["_law_error"] (aH zj):=⟨rfl,rfl,rfl,by decide +kernel,rfl,by decide +kernel,by decide +kernel⟩
theorem sh{K:W.Frag}{X:Cx}(h:X.K=K):cO X (binaryOp .Add) (fun x y H Q=>∃(l b:Addr)(xs zs:List V),x=.ref l/\y=.ref b/\aj K H l xs/\aj K H b zs/\xs.length+zs.length<=sizeLine/\∀p,H p=none->Q (.ref p) (upd H p (.lst (xs++zs)))):=by
 subst h;exact nA
noncomputable def wr(K:W.Frag)(D c1 c2 C c3:Addr):Sp:=fun vs H Q _=>∃e dd X b1 b2 b3 b4,vs=[.ref e]/\yr K X D c1 c2 C c3 b1 b2 b3 b4/\tS H X dd e/\(∀d,dd=some d->∃fs,H d=some (.xd fs)) /\
 ∀H' l,aA H H' ->H l=none->H' l=some (.lst [.bl true,.bl true,.bl b1,.bl b2,.bl b3,.bl b4])->Q (.ref l) H'
theorem wF{K:W.Frag}{mg:Str->Option Value}{f C D c1 c2 c3 fI:Addr}{fd fdI:FuncData}(hi:mg "isinstance"=none)(hv:mg "ValueError"=none)(cl:tM K mg C D c1 c2 c3 fI fdI)(Df:tU K mg "_law_kinds" zj ["_law_error"] f fd){p:Program}{w:World}{base:Heap}{k:Nat} :
  iR p w K mg base (k+1) f fd ["_law_error"] (wr K D c1 c2 C c3):=by
 obtain⟨oc,od,kV,doc,pm,an,cdv,ct,osl,rfl,lk,hcd⟩:=Df.fn.ex;refine yJ lk hcd v9 (fun vs H Q E h=> ?_) fun A outer s H vs Q h=> ?_
 ·obtain⟨_,_,_,_,_,_,_,rfl,_⟩:=h
  rfl
 obtain⟨e,dd,X,b1,b2,b3,b4,rfl,kn,ie,hd,q⟩:=h;have nd:=v9.nd
 have isR:∀{Y:Cx}{bb:Bool}{u:V}{v:Value},Y.K=K->(∀z,RelV u z->z=v)->W.kitOne K (.ref X) v=some bb->ay Y (.builtin "isinstance") (fun xs H Q=>∃e dd,xs=[.ref e,u]/\tS H X dd e/\(∀d,dd=some d->∃fs,H d=some (.xd fs))/\Q (.bl bb) H) :=
  fun h1 h2 h6=>si (by rw[h1];exact kn.xc) h2 (by rw[h1];exact h6)
 refine⟨_,ag (dS (i:=1) nd rfl (Or.inl rfl) (dU (aC (az (isR (u:=.ref D) rfl (fun v z=>z) kn.kD) rfl hi Cd (aC (pv 0) (aC (cz (v:=.ref D) rfl cl.cs.kD.nm rfl) aT)))
    (aC (az (isR (u:=.ty "ValueError") rfl (fun v z=>z) kn.kV) rfl hi Cd (aC (pv 0) (aC (wB (n:="ValueError") rfl hv rfl) aT)))
    (aC (az (isR (u:=.ref c1) rfl (fun v z=>z) kn.k1) rfl hi Cd (aC (pv 0) (aC (cz (v:=.ref c1) rfl cl.cs.k1.nm rfl) aT))) aT)))))
    (bT (ig (qd (sh (K:=K) rfl) (pv 1) (dU (aC (az (isR (u:=.ref c2) rfl (fun v z=>z) kn.k2) rfl hi Cd (aC (pv 0) (aC (cz (v:=.ref c2) rfl cl.cs.k2.nm rfl) aT)))
    (aC (az (isR (u:=.ref C) rfl (fun v z=>z) kn.k3) rfl hi Cd (aC (pv 0) (aC (cz (v:=.ref C) rfl cl.cs.kC.nm rfl) aT)))
    (aC (az (isR (u:=.ref c3) rfl (fun v z=>z) kn.k4) rfl hi Cd (aC (pv 0) (aC (cz (v:=.ref c3) rfl cl.cs.k3.nm rfl) aT))) aT))))))),?_⟩
 refine⟨_,rfl,e,dd,rfl,ie,hd,_,rfl,e,dd,rfl,ie,hd,_,rfl,e,dd,rfl,ie,hd,(by show 3<=sizeLine;decide),fun l hl=> ?_⟩;have s1:aA H (upd H l (.lst [.bl true,.bl true,.bl b1])):=(aA.refl H).upd hl;have ie2:=ie.mono s1;have hd2:∀d,dd=some d->∃fs,upd H l (.lst [.bl true,.bl true,.bl b1]) d=some (.xd fs):=fun d z=>(hd d z).imp fun fs y=>s1 _ _ y;refine⟨_,rfl,_,rfl,e,dd,rfl,ie2,hd2,_,rfl,e,dd,rfl,ie2,hd2,_,rfl,e,dd,rfl,ie2,hd2,(by show 3<=sizeLine;decide),fun m hm=> ?_⟩;have lm:l≠m:=fun z=>by rw[<- z,aD]at hm;cases hm
 have hm0:H m=none:=by rw[aE (CQ lm)]at hm;exact hm
 refine⟨l,m,_,_,rfl,rfl,aj.of (by rw[aE lm];exact aD),aj.of aD,(by show 6<=sizeLine;decide),fun z hz=> ?_⟩;have pm:z≠m:=fun y=>by rw[y,aD]at hz;cases hz
 rw[aE pm]at hz;have pl:z≠l:=fun y=>by rw[y,aD]at hz;cases hz
 rw[aE pl]at hz;exact q _ z ((((aA.refl H).upd (o:=.lst [.bl true,.bl true,.bl b1]) hl).upd (o:=.lst [.bl b2,.bl b3,.bl b4]) hm0).upd (o:=.lst ([.bl true,.bl true,.bl b1]++[.bl b2,.bl b3,.bl b4])) hz) hz aD
end
section
open PySem.Spec PyProof.Rows L2.XN XE
structure zA(K:W.Frag)(X D c1 c2 C c3:Addr)(b1 b2 b3 b4:Bool):Prop where
 ga:W.findIn K (.ref X) "__getattribute__"=some (some (.builtin "BaseException.__getattribute__"))
 gn:W.findIn K (.ref X) "__getattr__"=some none
 ca:W.findIn K (.ref X) "__class__"=some (some (.builtin "object.__class__"))
 ob:W.mroIn K X (.type "object")=some true
 be:W.mroIn K X (.type "BaseException")=some true
 sD:W.subIn K (.ref X) (.ref D)=some true
 sV:W.subIn K (.ref X) (.type "ValueError")=some true
 s1:W.subIn K (.ref X) (.ref c1)=some b1
 s2:W.subIn K (.ref X) (.ref c2)=some b2
 s3:W.subIn K (.ref X) (.ref C)=some b3
 s4:W.subIn K (.ref X) (.ref c3)=some b4
theorem zA.kin{K:W.Frag}{mg:Str->Option Value}{X D c1 c2 C c3 fI:Addr}{fd:FuncData}{b1 b2 b3 b4:Bool}(r:zA K X D c1 c2 C c3 b1 b2 b3 b4)(cs:tN K mg C D c1 c2 c3 fI fd)(hc:(W.clsIn K X).isSome=true)(m1:X=c1->b1=true)(m2:X=c2->b2=true)(m3:X=C->b3=true)(m4:X=c3->b4=true):yr K X D c1 c2 C c3 b1 b2 b3 b4 :=
 ⟨⟨r.ga,r.gn,r.ca,cs.mx.xc.sg,cs.mx.xc.tk,r.ob,r.be,hc⟩,cs.kD.kit r.sD fun _=>rfl,xo r.sV (by decide +kernel),cs.k1.kit r.s1 m1,cs.k2.kit r.s2 m2,cs.kC.kit r.s3 m3,cs.k3.kit r.s4 m4⟩
end
theorem oq{rows:List Str}(hl:∀z∈rows,z.length<=1002):gh (.tup (rows.map .str))=hJ rows:=by
 have ln:∀z:Str,z.length<=1002->(bJ (PV.str z)).getD 0=z.length:=fun z hz=>by
  rw[len_str,BK (by show z.length<=16777216;omega)];rfl
 show(cG _&&((rows.map PV.str).all ci&&(rows.map PV.str).all fun x=>decide ((bJ x).getD 0=(bJ ((rows.map PV.str).getD 0 .non)).getD 0)))=_;cases rows with
 | nil=>rfl
 | cons y rows =>
  have e0:(bJ (((y::rows).map PV.str).getD 0 .non)).getD 0=y.length:=ln y (hl y BN);rw[e0,Cg];unfold hJ cG;simp only[BB,Bl,Cj,BJ,List.headD_cons];have ls:∀z:Str,ci (.str z)=true↔(1<=z.length/\z.length<=8)/\∀c∈z.cps.toList,c=120\/c=46:=fun z=>by
   show(cG z.length&&z.cps.toList.all iC)=true↔_;unfold cG;simp only[BB,Bl,Cj]
   constructor
   ·rintro⟨⟨h1,h2⟩,h3⟩
    exact⟨⟨by omega,by omega⟩,fun c hc=>by simpa [iC]using h3 c hc⟩
   ·rintro⟨⟨h1,h2⟩,h3⟩
    exact⟨⟨by omega,by omega⟩,fun c hc=>by simpa [iC]using h3 c hc⟩
  constructor
  ·rintro⟨⟨h1,h2⟩,h3,h4⟩
   have g:=(ls y).mp (h3 _ (by simp));refine⟨⟨⟨⟨by omega,by omega⟩,fun z hz=>⟨?_,fun c hc=> ?_⟩⟩,CB g.1.1⟩,CB g.1.2⟩
   ·have:=h4 (.str z) (List.mem_map_of_mem hz)
    rw[ln z (hl z hz)]at this;exact CB this
   ·have:=((ls z).mp (h3 (.str z) (List.mem_map_of_mem hz))).2 c hc
    simpa using this
  ·rintro⟨⟨⟨⟨h1,h2⟩,h3⟩,h4⟩,h5⟩
   refine⟨⟨by omega,by omega⟩,fun x hx=> ?_,fun x hx=> ?_⟩
   ·obtain⟨z,hz,rfl⟩:=CI.mp hx
    have g:=h3 z hz;have g1:=Bs g.1;have h4:=Bs h4;have h5:=Bs h5;exact(ls z).mpr ⟨⟨by omega,by omega⟩,fun c hc=>by simpa using g.2 c hc⟩
   ·obtain⟨z,hz,rfl⟩:=CI.mp hx
    rw[ln z (hl z hz)];exact Bs (h3 z hz).1
theorem lv4{k:Nat}{v:PV}(h:aB P k 20004 [.non]=some v):5<=k:=by
 by_cases hk:5<=k
 ·exact hk
 ·have e:∀k,k<5->(aB P k 20004 [.non]).isNone=true:=by decide +kernel
  have:=e k (by omega);rw[h]at this;cases this
theorem jw{k:Nat}{vs:List PV}{r:PV}(h:aB P (k+1) 32 vs=some r):5<=k/\∃z rows,vs=[.str z]/\z.length<=1000/\Txt.split z NL=rows/\UM.aU 8 rows/\r=.tup (rows.map .str):=by
 rw[gg]at h;have hP:P 32=some vQ:=rfl;rw[hP,BO]at h
 split at h
 case isFalse=>cases h
 rename_i hl;have hl:vs.length=1:=hl;obtain⟨v,rfl⟩:=rL hl;simp only[vQ,pN,pO,fY,fK,fJ,fQ,fU,fH,fO,fX,fW,fZ,fV,fT,fN,fP,bL,bN,bK,cB,bj,bu,bo,b9,bt,cC,bZ,bn,bg,bh,bc,cD,cE,ba,bW,bi,cA,pH,k9,entry,BO,B8,BZ,Ca,bR]at h;cases h9:aB P k 20004 [.non]with
 | none=>rw[h9]at h;cases h
 | some x =>
  rw[h9]at h;simp only[B8,BO,cP]at h;have e:(([TV.frz v (imm v)]++List.replicate (2-[v].length) TV.un).take 1).map TV.valD=[v]:=rfl;rw[e]at h;cases hg:jx [v]with
  | none=>rw[hg]at h;cases h
  | some r' =>
   rw[hg]at h;have h:some r' =some r:=h;cases h;exact⟨lv4 h9,qG hg⟩
theorem c32(k:Nat){rows:List Str}(b:UM.aU 8 rows)(hl:(Str.join NL rows).length<=1000):aB P (k+6) 32 [.str (Str.join NL rows)]=some (.tup (rows.map .str)):=by
 refine run rfl rfl ?_;have e9:aB P (k+5) 20004 [.non]=some .non:=rfl;simp only[vQ,pN,pO,fY,fK,fJ,fQ,fU,fH,fO,fX,fW,fZ,fV,fT,fN,fP,bL,bN,bK,cB,bj,bu,bo,b9,bt,cC,bZ,bn,bg,bh,bc,cD,cE,ba,bW,bi,cA,pH,k9,entry,BO,B8,BZ,Ca,bR,sc];rw[e9];simp only[B8,BO,cP];have e:(([TV.frz (PV.str (Str.join NL rows)) (imm (PV.str (Str.join NL rows)))]++List.replicate (2-[PV.str (Str.join NL rows)].length) TV.un).take 1).map TV.valD=[.str (Str.join NL rows)]:=rfl;rw[e,uI b hl];rfl
section
open PySem.Spec PyProof.Rows L2.XN XE
theorem gE:ax jX ["text"] (aH n9):=⟨rfl,rfl,rfl,by decide +kernel,rfl,by decide +kernel,by decide +kernel⟩
noncomputable def vg(i:Nat):Stmt:=(aZ n9).getD i (.Pass ⟨0,0,0,0⟩)
noncomputable abbrev Ai:Ct:=⟨jX,(aH n9).names,F,G,B,[]⟩
theorem iA{X:Cx}{σ:L2.St}{H:Hp}{D:cX}{z:Str}{p:Program}{w:World}{K:PySem.W.Frag}{mg:Str->Option Value}{base:Heap}{f:Addr}{cdv:Value}{A:Around}{outer:List Env}{s:Shared}{H0:Hp}{E:XK}{W:Value->Shared->Prop}(hx:X={cV cY p w K mg base jX "read_board" (aH n9) f cdv A outer s H0 E with xe:=W})(ht:mg "tuple"=none)
  (hz:σ[0]? =some (some (.str z))) (hl:z.length<=1000) (q:∀t H',aA H H' ->H' t=some (.tup ((Txt.split z NL).map V.str))->D.nx (σ.set 1 (some (.ref t))) H'):WS X (vg 1) D σ H:=by
 subst hx;refine ws (dS (i:=1) gE.nd rfl (Or.inl rfl) (iE dM rfl ht PyProof.Rows.boot_tuple (aC (qp PySem.F.plainAttrs_str PySem.F.slot_str_split PySem.F.type_str_split rH (pv 0) (aC lQ aT)) aT))) ?_;refine⟨_,hz,rfl,_,_,rfl,rfl,rfl,by rw[Bw];omega,fun l hl=>⟨l,_,rfl,.inl ⟨aj.of aD,fun t ht=> ?_⟩⟩⟩;exact q t _ ((aP hl _).trans (aP ht _)) aD
theorem nM{y:Str}:∀{rows:List Str},y∈rows->y.length<=(Str.join NL rows).length
 | [],h=>by cases h
 | [x],h=>by
  rw[Bp.mp h];exact BD _
 | x::x2::rows,h=>by
  have e:(Str.join NL (x::x2::rows)).length=x.length+1+(Str.join NL (x2::rows)).length:=by
   show(x.cps++ #[10]++(Str.join NL (x2::rows)).cps).size=_;rw[Array.size_append,Array.size_append];rfl
  rcases BP.mp h with h|h
  ·rw[h];omega
  ·have:=nM h;omega
theorem qr{z y:Str}(h:y∈Txt.split z NL):y.length<=z.length:=by
 have:=nM h;rw[StrLaws.join_split]at this;exact this
theorem c2s(k:Nat){z:Str}(hz:z.length<=1000):aB P (k+3) 2 [.tup ((Txt.split z NL).map .str)]=some (.bl (hJ (Txt.split z NL))):=by
 have hl:∀y∈Txt.split z NL,y.length<=1002:=fun y hy=>by have:=qr hy;omega
 rw[<- oq hl];exact c2 k _ rfl fun xs e x hx=>by
  cases e;obtain⟨y,hy,rfl⟩:=CI.mp hx;exact CB (by have:=hl y hy;show y.length<=16777216;omega)
theorem yE{K:W.Frag}{mg:Str->Option Value}{f:Addr}{fd:FuncData}(hG:∀x v,G.lookup x=some v->∃u w,mg x=some u/\RelV w u/\∀Hi n H,Rp K Hi n v H w)(hB:∀x,B.contains x=true->mg x=none)(Df:tU K mg "read_board" n9 ["text"] f fd)(p:Program)(w:World)(base:Heap)(k:Nat)
  (fns:∀y g,F.lookup y=some g->∃b gd qs,mg y=some (.ref b)/\W.keepIn K (.ref b)=true/\Binds K gd qs []/\ah p w K mg base cY k b gd qs (mX K (aB P k g))):ah p w K mg base cY (k+1) f fd ["text"] (mX K (aB P (k+1) 32)):=by
 refine Df.fn.ok gE (fun vs H Q E h=> ?_) (fun cdv A outer s H vs Q E hr h=> ?_)
 ·obtain⟨pvs,r,h1,h2,_⟩:=h
  rw[<- h1.len];obtain⟨_,_,_,rfl,_⟩:=jw h2;rfl
 obtain⟨pvs,r,h1,h2,q⟩:=h;obtain⟨hk,z,rows,rfl,zl,es,bd,rfl⟩:=jw h2;obtain⟨k,rfl⟩:∃k',k=k' +3:=⟨k-3,by omega⟩
 have C0:bG (aB P (k+3)) (cV cY p w K mg base jX "read_board" (aH n9) f cdv A outer s H E).nox Ai :=
  ⟨rfl,gE.nd,rfl,gE.kind,rfl,hG,hB,fun y g hy=>by
   obtain⟨b,gd,qs,z1,z2,z3,z4⟩:=fns y g hy;exact⟨k+3,b,gd,qs,z4,hr,z1,z2,z3⟩,DG,hr.units⟩
 have R0:=eP (d:=vQ) (N:=jX) rfl h1;have hl0:(start jX vs).length=jX.length:=by
  have:=h1.len;unfold L2.start;rw[BL,BJ,CU,<-this];rfl
 have e2:=c2s k zl;rw[es,fh.mpr bd]at e2;obtain⟨u0,g0,r0⟩:=R0.frz 0 _ _ rfl;have eu:=Rp.str.mp r0;subst eu;have eb:aZ n9=[vg 0,vg 1,vg 2,vg 3]:=by kernel_rfl
 rw[eb];refine⟨_,bF,?_⟩;refine mT (ag j5 bF) ?_;refine rX (n:=80) (c' :=.not (.val (.bf (.isin "str") (.cons (.var 0) .nil)))) (t:=false) C0 (by kernel_rfl) ?_ R0 (fun z=>by cases z) fun _ G s1=> ?_
 ·simp -implicitDefEqProofs only[vQ,entry]
  walk_at "ev"
 refine mT dm ?_;refine mT (ag j5 bF) ?_;refine iA rfl (hB "tuple" rfl) g0 zl fun t G2 s2 ht=> ?_;rw[es]at ht;have R2:aX K H [] [.frz (.str z) true,.frz (.tup (rows.map .str)) true] ((start jX vs).set 1 (some (.ref t))) G2:=((R0.ext s1).ext s2).setF (i:=1) (v:=.tup (rows.map .str)) (n:=true) (by rw[hl0];show 1<jX.length;decide) (Rp.tup.mpr ⟨t,_,rfl,bI.of (by rw[jC];exact ht),aF.strs2⟩);have L2:((start jX vs).set 1 (some (V.ref t))).length=jX.length:=by rw[Cy];exact hl0
 refine mT (ag j5 bF) ?_;refine rX (n:=80) (c' :=.not (.val (.call 2 (.cons (.var 1) .nil)))) (t:=false) C0 (by kernel_rfl) ?_ R2 (fun z=>by cases z) fun _ G3 s3=> ?_
 ·walk_at "ev"
  rw[e2];walk_at "ev"
 refine mT dm ?_;refine mT (ag j5 bF) ?_;refine rt_w (fu:=0) (n:=80) C0 rfl (s' :=.ret [1] (.var 1)) (v:=.tup (rows.map .str)) (by kernel_rfl) ?_ (R2.ext s3) L2 q;rw[lq];walk_at "ev"
noncomputable def spRB(K:W.Frag)(C:Addr):Sp:=fun vs H _ E=>∃v,aF K H false [v] H vs/\iG v=true/\∀H',aA H H' ->E (.ref C) none H'
theorem rb32{K:W.Frag}{mg:Str->Option Value}{f C D c1 c2 c3 fI:Addr}{fd fdI:FuncData}(hG:∀x v,G.lookup x=some v->∃u w,mg x=some u/\RelV w u/\∀Hi n H,Rp K Hi n v H w)(hB:∀x,B.contains x=true->mg x=none)(cl:tM K mg C D c1 c2 c3 fI fdI)(Df:tU K mg "read_board" n9 ["text"] f fd){p:Program}{w:World}{base:Heap}{k:Nat}
  (fns:∀y g,F.lookup y=some g->∃b gd qs,mg y=some (.ref b)/\W.keepIn K (.ref b)=true/\Binds K gd qs []/\ah p w K mg base cY (k+3) b gd qs (mX K (aB P (k+3) g))):ah p w K mg base (wQ p w c1) (k+4) f fd ["text"] (spRB K c1):=by
 refine yK (fun vs H Q E h=> ?_) fun md=> ?_
 ·obtain⟨v,h1,_⟩:=h
  rw[<- h1.len];rfl
 obtain⟨oc,od,kV,doc,pm,an,cdv,ct,osl,rfl,lk,hcd⟩:=Df.fn.ex;refine ri lk hcd gE (fun vs H Q E h=> ?_) fun A outer s H vs Q E hr h=> ?_
 ·obtain⟨v,h1,_⟩:=h
  rw[<- h1.len];rfl
 obtain⟨v,h1,nb,q⟩:=h
 have C0:bG (aB P (k+3)) (cV (wQ p w c1) p w K mg base jX "read_board" (aH n9) f cdv A outer s H E) Ai :=
  ⟨rfl,gE.nd,rfl,gE.kind,rfl,hG,hB,fun y g hy=>by
   obtain⟨b,gd,qs,z1,z2,z3,z4⟩:=fns y g hy;exact⟨k+3,b,gd,qs,z4,hr,z1,z2,z3⟩,PassesOwn.leaving,hr.units⟩
 have R0:=eP (d:=vQ) (N:=jX) rfl h1;have hl0:(start jX vs).length=jX.length:=by
  have:=h1.len;unfold L2.start;rw[BL,BJ,CU,<-this];rfl
 have O:=qt md.kin cl.cs.k1.nm cl.q1;have FV:=DB;have rs:∀{np cpos pos:Pos},PS (cV (wQ p w c1) p w K mg base jX "read_board" (aH n9) f cdv A outer s H E) (.Raise (some (.Call (.Name "NoBoard" np) [] [] cpos)) none pos) (pd E c1):=fun{np cpos pos}=>oC O FV (by decide) FV rfl rfl (fun pins σ H s h' e I mk q=>oB I mk q);have eb:aZ n9=[vg 0,vg 1,vg 2,vg 3]:=by kernel_rfl
 rw[eb];refine⟨_,bF,?_⟩;refine mT (ag j5 bF) ?_
 by_cases hs:∃z,v=.str z
 ·obtain⟨z,rfl⟩:=hs
  have nb:(decide (z.length<=1000)&& !hJ (Txt.split z NL))=true:=nb;rw[BB,Ck]at nb;have zl:=Bs nb.1;have e2:=c2s k zl;rw[nb.2]at e2;obtain⟨u0,g0,r0⟩:=R0.frz 0 _ _ rfl;have eu:=Rp.str.mp r0;subst eu;refine rX (n:=80) (c' :=.not (.val (.bf (.isin "str") (.cons (.var 0) .nil)))) (t:=false) C0 (by kernel_rfl) ?_ R0 (fun z=>by cases z) fun _ G s1=> ?_
  ·simp -implicitDefEqProofs only[vQ,entry]
   walk_at "ev"
  refine mT dm ?_;refine mT (ag j5 bF) ?_;refine iA (E:=E) rfl (hB "tuple" rfl) g0 zl fun t G2 s2 ht=> ?_;obtain⟨rows,hr⟩:∃rows,rows=Txt.split z NL:=⟨_,rfl⟩;rw[<- hr]at ht e2;have R2:aX K H [] [.frz (.str z) true,.frz (.tup (rows.map .str)) true] ((start jX vs).set 1 (some (.ref t))) G2:=((R0.ext s1).ext s2).setF (i:=1) (v:=.tup (rows.map .str)) (n:=true) (by rw[hl0];show 1<jX.length;decide) (Rp.tup.mpr ⟨t,_,rfl,bI.of (by rw[jC];exact ht),aF.strs2⟩);refine mT (ag j5 bF) ?_;refine rX (n:=80) (c' :=.not (.val (.call 2 (.cons (.var 1) .nil)))) (t:=true) C0 (by kernel_rfl) ?_ R2 (fun _ G3 s3=> ?_) (fun z=>by cases z)
  ·walk_at "ev"
   rw[e2];walk_at "ev"
  exact mT (bT rs) (q _ (s1.trans (s2.trans s3)))
 ·refine rX (n:=80) (c' :=.not (.val (.bf (.isin "str") (.cons (.var 0) .nil)))) (t:=true) C0 (by kernel_rfl) ?_ R0 (fun _ G s1=> ?_) (fun z=>by cases z)
  ·simp -implicitDefEqProofs only[vQ,entry]
   cases v with
   | str z=>exact absurd ⟨z,rfl⟩ hs
   | dT a b=>cases nb
   | _=>walk_at "ev"
  ·exact mT (bT rs) (q _ s1)
end
theorem lv20{k:Nat}{v:PV}(h:aB P k 20020 [.non]=some v):21<=k:=by
 by_cases hk:21<=k
 ·exact hk
 ·have e:∀k,k<21->(aB P k 20020 [.non]).isNone=true:=by decide +kernel
  have:=e k (by omega);rw[h]at this;cases this
theorem ff{f k n:Nat}{g:List PV->Option PV}{vs:List PV}{r:PV}(hP:P f=some ⟨n+1,1,.cons (.drop (.call 20020 (.cons (.con .non) .nil))) (.cons (.hand 1 g) .nil)⟩)(h:aB P (k+1) f vs=some r):21<=k/\∃v,vs=[v]/\g [v]=some r:=by
 rw[gg,hP,BO]at h
 split at h
 case isFalse=>cases h
 rename_i hl;have hl:vs.length=1:=hl;obtain⟨v,rfl⟩:=rL hl;simp only[pN,pO,fY,fK,fJ,fQ,fU,fH,fO,fX,fW,fZ,fV,fT,fN,fP,bL,bN,bK,cB,bj,bu,bo,b9,bt,cC,bZ,bn,bg,bh,bc,cD,cE,ba,bW,bi,cA,pH,k9,entry,BO,B8,BZ,Ca,bR]at h;cases h9:aB P k 20020 [.non]with
 | none=>rw[h9]at h;cases h
 | some x =>
  rw[h9]at h;simp only[B8,BO,cP]at h;have e:(([TV.frz v (imm v)]++List.replicate (n+1-[v].length) TV.un).take 1).map TV.valD=[v]:=rfl;rw[e]at h;cases hg:g [v]with
  | none=>rw[hg]at h;cases h
  | some r' =>
   rw[hg]at h;have h:some r' =some r:=h;cases h;exact⟨lv20 h9,v,rfl,hg⟩
theorem rY{f k n:Nat}{g:List PV->Option PV}{v r:PV}(hP:P f=some ⟨n+1,1,.cons (.drop (.call 20020 (.cons (.con .non) .nil))) (.cons (.hand 1 g) .nil)⟩)(hg:g [v]=some r):aB P (k+22) f [v]=some r:=by
 refine run hP rfl ?_;have e9:aB P (k+21) 20020 [.non]=some .non:=rfl;simp only[pN,pO,fY,fK,fJ,fQ,fU,fH,fO,fX,fW,fZ,fV,fT,fN,fP,bL,bN,bK,cB,bj,bu,bo,b9,bt,cC,bZ,bn,bg,bh,bc,cD,cE,ba,bW,bi,cA,pH,k9,entry,BO,B8,BZ,Ca,bR,sc];rw[e9];simp only[B8,BO,cP];have e:(([TV.frz v (imm v)]++List.replicate (n+1-[v].length) TV.un).take 1).map TV.valD=[v]:=rfl;rw[e,hg];rfl
section
open PySem.Spec PyProof.Rows L2.XN XE
theorem v8:ax N37 ["_law_thing"] (aH s37):=⟨rfl,rfl,rfl,by decide +kernel,rfl,by decide +kernel,by decide +kernel⟩
theorem zm{j k:Nat}{A:Around}{v:Option Value}(hr:bE k A)(h:j<=k):tD j (A.mark v):=⟨by have:=hr.dp;show A.depth+3*j+5<_;omega,by have:=hr.un;show A.units+16*j+200<_;omega⟩
theorem yD{K:PySem.W.Frag}{mg:Str->Option Value}{f fR f6 C D c1 c2 c3 fI:Addr}{fd fdR fd6 fdI:FuncData}(hG:∀x v,G.lookup x=some v->∃u w,mg x=some u/\RelV w u/\∀Hi n H,Rp K Hi n v H w)(hB:∀x,B.contains x=true->mg x=none)(cl:tM K mg C D c1 c2 c3 fI fdI)
  (DR:tU K mg "read_board" n9 ["text"] fR fdR) (D6:tU K mg "_law_kinds" zj ["_law_error"] f6 fd6) (Df:tU K mg "_law_refused" s37 ["_law_thing"] f fd) (p:Program) (w:World) (base:Heap) (k:Nat)
  (below:∀j,j<=k->∀y g,F.lookup y=some g->∃b gd qs,mg y=some (.ref b)/\PySem.W.keepIn K (.ref b)=true/\Binds K gd qs []/\ah p w K mg base cY j b gd qs (mX K (aB P j g))):ah p w K mg base cY (k+1) f fd ["_law_thing"] (mX K (aB P (k+1) 37)):=by
 refine Df.fn.ok v8 (fun vs H Q E h=> ?_) (fun cdv A outer s H vs Q E hr h=> ?_)
 ·obtain⟨pvs,r,h1,h2,_⟩:=h
  rw[<- h1.len];obtain⟨_,_,rfl,_⟩:=ff (n:=2) rfl h2;rfl
 obtain⟨pvs,r,h1,h2,q⟩:=h;obtain⟨hk,v,rfl,hg⟩:=ff (n:=2) rfl h2;obtain⟨rfl,v',ev,nb⟩:=qF hg;cases ev;obtain⟨k,rfl⟩:∃k',k=k' +21:=⟨k-21,by omega⟩;have XR:=(rb32 (k:=k) hG hB cl DR (below (k+3) (by omega))).mono (show k+4<=k+21 by omega);have K6:iR p w K mg base (k+1) f6 fd6 ["_law_error"] (wr K D c1 c2 C c3):=wF (hB "isinstance" rfl) (hB "ValueError" rfl) cl D6;have nd:=v8.nd;obtain⟨u,rfl⟩:∃u,vs=[u]:=by
  unfold aF at h1;obtain⟨u,us,rfl,_,h1⟩:=h1;unfold aF at h1;exact⟨u,by rw[h1]⟩
 refine⟨_,ag (dS (i:=1) nd rfl (Or.inl rfl) qf) (ag (uN (C:=c1) (D:=D) (i:=2) rfl rfl rfl nd rfl rfl rfl cl.cs.kD.nm (cl.cs.kD.exm cl.s1 cl.cs.sB)
   (fun E pn W hp=>bT (mj (qm XR hr rfl DR.nm DR.fn.kp DR.bd .nil hp (aC (pv 0) aT))))
   (fun e dd pn=>bT (dS (i:=1) nd rfl (Or.inl rfl) (qo K6 (zm hr (by omega)) rfl D6.nm D6.fn.kp D6.bd (aC (pv 2) aT)))))
   (bT (ig (mr (qy (Hi:=H) hr.units) (pv 1) (dU (aC dr (aC dr (aC dr (aC dr (aC dr (aC dr aT))))))) (rE _))))),?_⟩
 show vx c1 2 _ _ _ [some u,some .non,none] H;refine⟨fun σ' cls dd H' =>σ' =[some u,some .non,none]/\dd=none/\aA H H',?_,fun σ' H' dd _ z e he=> ?_⟩
 ·exact⟨u,rfl,v,h1,nb,fun H' s' =>⟨rfl,rfl,s'⟩⟩
 ·obtain⟨rfl,rfl,s'⟩:=z
  have se:aA H' (upd H' e (XO c1 none e)):=(aA.refl H').upd he;refine⟨_,rfl,e,none,c1,true,false,false,false,rfl,cl.n1,.inr aD,(fun d z=>by cases z),fun H2 l s2 hl0 hl=> ?_⟩;refine⟨_,rfl,(by show 6<=sizeLine;decide),fun z hz=> ?_⟩;have rB:∀{H' :Hp}{q:Addr},H' q=some (.lst [.bl true,.bl true,.bl true,.bl false,.bl false,.bl false])->Rp K H false (.lst [.bl true,.bl true,.bl true,.bl false,.bl false,.bl false]) H' (.ref q):=fun h=>Rp.lst.mpr ⟨_,_,rfl,(fun z=>by cases z),aj.of h,.cons (Rp.bl.mpr rfl) (.cons (Rp.bl.mpr rfl) (.cons (Rp.bl.mpr rfl) (.cons (Rp.bl.mpr rfl) (.cons (Rp.bl.mpr rfl) (.cons (Rp.bl.mpr rfl) .nil)))))⟩;have sz:aA H2 (upd H2 z (.lst [.bl true,.bl true,.bl true,.bl false,.bl false,.bl false])):=(aA.refl H2).upd hz;refine⟨.lst [.bl true,.bl true,.bl true,.bl false,.bl false,.bl false],.lst [.bl true,.bl true,.bl true,.bl false,.bl false,.bl false],rfl,rfl,rB (sz _ _ hl),rB aD,?_⟩;exact q _ _ (s'.trans (se.trans (s2.trans sz))) (Rp.bl.mpr rfl)
end
section
open PySem.Spec PyProof.Rows L2.XN XE
theorem mY:ax N39 ["_law_number"] (aH yy):=⟨rfl,rfl,rfl,by decide +kernel,rfl,by decide +kernel,by decide +kernel⟩
noncomputable abbrev ct39:Ct:=⟨N39,(aH yy).names,F,G,B,[]⟩
section
variable{K:W.Frag}{mg:Str->Option Value}{C D c1 c2 c3 fI:Addr}{fd:FuncData}(cl:tN K mg C D c1 c2 c3 fI fd)
include cl
theorem vC(s:Shared)(e u:Value)(X:K.In s.heap):BindsTo s fd ⟨[e],[("rows",u)]⟩ (NI.zip [e,u]):=by
 obtain⟨oc,kV,doc,pm,cdv,ct,oc',od,an,od',osl,osl',T,n,rfl,lk,hcd,ht⟩:=cl.fn;exact W.binds_K X rfl ht rfl rfl rfl
theorem vD:Binds K fd NI [.none]:=by
 obtain⟨oc,kV,doc,pm,cdv,ct,oc',od,an,od',osl,osl',T,n,rfl,lk,hcd,ht⟩:=cl.fn;intro s us X hl;obtain⟨a,rfl⟩:=rL (us:=us) (by simpa [NI]using hl);exact W.binds_K X rfl ht rfl rfl rfl
end
theorem zo{K:W.Frag}{H H' :Hp}{n kk:Int}{a b:Option V}(s:aA H H'):aX K H [] [.frz (.int n) true,.un,.un,.frz (.int kk) true] [some (.int n),a,b,some (.int kk)] H' where
 same:=s
 own:=fun l hl=>by cases hl
 frz:=fun i v m e=>by
  match i,e with
  | 0,e=>cases e;exact⟨_,rfl,Rp.int.mpr rfl⟩
  | 3,e=>cases e;exact⟨_,rfl,Rp.int.mpr rfl⟩
 obs:=fun i t b xs m e ht=>by
  match i,e with
  | 0,e=>cases e;cases ht
  | 1,e=>cases e;cases ht
  | 2,e=>cases e;cases ht
  | 3,e=>cases e;cases ht
 dst:=fun i j t t' x y l e ht=>by
  match i,e with
  | 0,e=>cases e;cases ht
  | 1,e=>cases e;cases ht
  | 2,e=>cases e;cases ht
  | 3,e=>cases e;cases ht
theorem yC{K:W.Frag}{mg:Str->Option Value}{f f6 C D c1 c2 c3 fI:Addr}{fd fd6 fdI:FuncData}(hG:∀x v,G.lookup x=some v->∃u w,mg x=some u/\RelV w u/\∀Hi n H,Rp K Hi n v H w)(hB:∀x,B.contains x=true->mg x=none)(cl:tM K mg C D c1 c2 c3 fI fdI)
  (D6:tU K mg "_law_kinds" zj ["_law_error"] f6 fd6) (Df:tU K mg "_law_errors" yy ["_law_number"] f fd) (p:Program) (w:World) (base:Heap) (k:Nat)
  (below:∀j,j<=k->∀y g,F.lookup y=some g->∃b gd qs,mg y=some (.ref b)/\W.keepIn K (.ref b)=true/\Binds K gd qs []/\ah p w K mg base cY j b gd qs (mX K (aB P j g))):ah p w K mg base cY (k+1) f fd ["_law_number"] (mX K (aB P (k+1) 39)):=by
 refine Df.fn.ok mY (fun vs H Q E h=> ?_) (fun cdv A outer s H vs Q E hr h=> ?_)
 ·obtain⟨pvs,r,h1,h2,_⟩:=h
  rw[<- h1.len];obtain⟨_,_,rfl,_⟩:=ff (n:=3) rfl h2;rfl
 obtain⟨pvs,r,h1,h2,q⟩:=h;obtain⟨hk,v,rfl,hg⟩:=ff (n:=3) rfl h2;obtain⟨n,rfl,rfl⟩:∃n,v=.int n/\r=.bl true:=by
  unfold Ab at hg
  split at hg
  ·rename_i n e
   cases e;cases hg;exact⟨n,rfl,rfl⟩
  ·cases hg
 obtain⟨k,rfl⟩:∃k',k=k' +21:=⟨k-21,by omega⟩;have fns:=below (k+21) (BD _)
 have C0:bG (aB P (k+21)) (cV cY p w K mg base N39 "_law_errors" (aH yy) f cdv A outer s H E).nox ct39 :=
  ⟨rfl,mY.nd,rfl,mY.kind,rfl,hG,hB,fun y g hy=>by
   obtain⟨b,gd,qs,z1,z2,z3,z4⟩:=fns y g hy;exact⟨k+21,b,gd,qs,z4,hr,z1,z2,z3⟩,DG,hr.units⟩
 have K6:ah p w K mg base cY (k+21) f6 fd6 ["_law_error"] (wr K D c1 c2 C c3):=(wF (k:=k+20) (hB "isinstance" rfl) (hB "ValueError" rfl) cl D6).ok fun _ _ _ _ z=>z;obtain⟨bS,gdS,qsS,mS1,mS2,mS3,FS⟩:=fns "_law_same" 9 rfl;have nd:=mY.nd;have FI0:ah p w K mg base cY 1 fI fdI NI (spI K fI):=vB (k:=0) cl.cs;have hr2:bE 2 (cV cY p w K mg base N39 "_law_errors" (aH yy) f cdv A outer s H E).nox.A:=hr.mono (by omega);obtain⟨u,hu⟩:∃u,vs=[u]/\u=.int n:=by
  unfold aF at h1;obtain⟨u,us,rfl,a1,h1⟩:=h1;unfold aF at h1;exact⟨u,by rw[h1],Rp.int.mp a1⟩
 obtain⟨rfl,rfl⟩:=hu
 refine⟨_,ag (dS (i:=1) nd rfl (Or.inl rfl) (dU (aC (qg cl.q2 cl.p2 rfl cl.cs.k2.nm) (aC (uY (E:=E0) cl.cs.mx FI0 hr2 rfl cl.cs.kC.nm (vC cl.cs) (lP (aC bw (aC (pv 0) aT)))) (aC (qg cl.q3 cl.p3 rfl cl.cs.k3.nm) (aC (uZ (dvs:=[.non]) (E:=E0) cl.cs.mx FI0 hr2 rfl cl.cs.kC.nm (vD cl.cs) (.cons rfl .nil)) aT))))))
  (ag (qO DG rfl (qW rfl (hB "zip" rfl) (aC (pv 1) (aC (dU (aC bw (aC bw (aC bw (aC bw aT))))) aT))) (qY rfl (gI (dq (i:=2) nd rfl (Or.inl rfl)) (gI (dq (i:=3) nd rfl (Or.inr rfl)) mn)))
   (bT (qN (mi (qu (Hi:=H) hr.units) (ik K6 hr rfl D6.nm D6.fn.kp D6.bd .nil qq (aC (pv 2) aT)) (qd (sh (K:=K) rfl) (dU (aC dr (aC dr aT))) aS) (rE _)) bF dm)))
  (bT (ig (lR (ik FS hr rfl mS1 mS2 mS3 .nil qq (aC (mq (qi dv (pv 1) bw (fun _ _=>rfl)) rfl) (aC (lP (aC bw (aC (pv 0) aT))) aT))) (qe (xN (xO (mq (qi dv (pv 1) bw (fun _ _=>rfl)) rfl)))))))),?_⟩
 intro e0 h0;refine⟨_,rfl,(by show 2<=sizeLine;decide),fun t ht=>fun e1 h1=>⟨e1,C,_,rfl,aD,cl.cs.mx,fun d1 hd1 hde1=>⟨rfl,?_⟩⟩⟩;rw[aE hde1]at hd1;rw[mU];obtain⟨A2,hA2⟩:∃A,A=upd (upd H e0 (XN c2 none e0)) t (.tup [.int 1,.int n]):=⟨_,rfl⟩;rw[<- hA2]at h1 hd1 ⊢;have sH:aA H A2:=by rw[hA2];exact((aA.refl H).upd h0).trans ((aA.refl _).upd ht)
 have f0:A2 e0=some (XN c2 none e0):=by rw[hA2];exact(aA.refl _).upd ht _ _ aD
 have ft:A2 t=some (.tup [.int 1,.int n]):=by rw[hA2];exact aD
 clear hA2 ht h0
 obtain⟨A5,hA5⟩:∃A,A=upd (upd A2 e1 (XN C (some d1) e1)) d1 (.xd [("rows",.ref t)]):=⟨_,rfl⟩;rw[<- hA5];have s25:aA A2 A5:=by rw[hA5];exact((aA.refl A2).upd h1).trans ((aA.refl _).upd (by rw[aE hde1];exact hd1))
 have f1:A5 e1=some (XN C (some d1) e1):=by rw[hA5,aE (CQ hde1),aD]
 have fd1:A5 d1=some (.xd [("rows",.ref t)]):=by rw[hA5,aD]
 have f0:=s25 _ _ f0;have ft:=s25 _ _ ft;have sH:=sH.trans s25
 clear hA5 s25 h1 hd1
 intro e2 h2;refine⟨Be _,fun e3 h3=>⟨e3,C,.non,rfl,aD,cl.cs.mx,fun d3 hd3 hde3=>⟨rfl,(by show 4<=sizeLine;decide),fun L hL=> ?_⟩⟩⟩;rw[aE hde3]at hd3;rw[mU]at hL ⊢;obtain⟨A6,hA6⟩:∃A,A=upd A5 e2 (XN c3 none e2):=⟨_,rfl⟩;rw[<- hA6]at h3 hd3 hL ⊢;have s56:aA A5 A6:=by rw[hA6];exact(aA.refl A5).upd h2
 have f2:A6 e2=some (XN c3 none e2):=by rw[hA6,aD]
 obtain⟨A9,hA9⟩:∃A,A=upd (upd A6 e3 (XN C (some d3) e3)) d3 (.xd [("rows",.non)]):=⟨_,rfl⟩;rw[<- hA9]at hL ⊢;have s69:aA A6 A9:=by rw[hA9];exact((aA.refl A6).upd h3).trans ((aA.refl _).upd (by rw[aE hde3];exact hd3))
 have f3:A9 e3=some (XN C (some d3) e3):=by rw[hA9,aE (CQ hde3),aD]
 have fd3:A9 d3=some (.xd [("rows",.non)]):=by rw[hA9,aD]
 obtain⟨B0,hB0⟩:∃A,A=upd A9 L (.lst [.ref e0,.ref e1,.ref e2,.ref e3]):=⟨_,rfl⟩;have s9:aA A9 B0:=by rw[hB0];exact(aA.refl A9).upd hL
 have fL:B0 L=some (.lst [.ref e0,.ref e1,.ref e2,.ref e3]):=by rw[hB0,aD]
 have s59:=(s56.trans s69).trans s9;have f0:=s59 _ _ f0;have f1:=s59 _ _ f1;have fd1:=s59 _ _ fd1;have ft:=s59 _ _ ft;have f2:=(s69.trans s9) _ _ f2;have f3:=s9 _ _ f3;have fd3:=s9 _ _ fd3;have sH:=sH.trans s59;show zS _ _ _ [some (.int n),some (.ref L),none,none] (upd A9 L (.lst [.ref e0,.ref e1,.ref e2,.ref e3]));rw[<- hB0]
 clear hB0 hA9 hA6 s9 s69 s56 s59 hL h3 hd3 h2
 refine⟨_,rfl,(by show 4<=sizeLine;decide),fun M hM=> ?_⟩;obtain⟨B1,hB1⟩:∃A,A=upd B0 M (.lst [.int 1,.int 2,.int 3,.int 2]):=⟨_,rfl⟩;rw[<- hB1];have sM:aA B0 B1:=by rw[hB1];exact(aA.refl B0).upd hM
 have fM:B1 M=some (.lst [.int 1,.int 2,.int 3,.int 2]):=by rw[hB1,aD]
 refine⟨L,M,_,_,rfl,aj.of (sM _ _ fL),aj.of fM,vI (xs:=[.ref e0,.ref e1,.ref e2,.ref e3]) (ys:=[.int 1,.int 2,.int 3,.int 2]) rfl (fun i σ H' =>∃u v,σ=[some (.int n),some (.ref L),u,v]/\aA B1 H') ⟨none,none,rfl,aA.refl _⟩ (fun i σ H' _ ⟨_,_,_,s'⟩=>aj.of (s' _ _ (sM _ _ fL))) (fun i σ H' _ ⟨_,_,_,s'⟩=>aj.of (s' _ _ fM)) ?_ ?_⟩
 ·rintro i x y p' σ H' ex ey hp ⟨u,v,rfl,s'⟩
  refine⟨p',_,rfl,bI.of aD,rfl,_,_,rfl,_,_,rfl,rfl,?_⟩;have s2:=s'.trans (aP hp (.tup [x,y]));obtain⟨G1,hG1⟩:∃A,A=upd H' p' (.tup [x,y]):=⟨_,rfl⟩;rw[<- hG1]at s2 ⊢;have s20:=sM.trans s2
  clear hG1
  obtain⟨e,dd,Xc,b1,b2,b3,b4,kk,ex,ey,kn,ie,hd,ev⟩:∃(e:Addr)(dd:Option Addr)(Xc:Addr)(b1 b2 b3 b4:Bool)(kk:Int),x=.ref e/\y=.int kk/\yr K Xc D c1 c2 C c3 b1 b2 b3 b4/\tS G1 Xc dd e/\(∀d,dd=some d->∃fs,G1 d=some (.xd fs)) /\
    aL (aB P (k+21)) (.lc (.cmp .Eq (.var 1) (.var 0)) (.rng (.cons (.con (.int 4)) .nil)) .no [3]) [.frz (.int n) true,.un,.un,.frz (.int kk) true]=some (.own [.bl b1,.bl b2,.bl b3,.bl b4] true):=by
   match i,ex,ey with
   | 0,ex,ey=>cases ex;cases ey;exact⟨e0,none,c2,false,true,false,false,1,rfl,rfl,cl.n2,.inl (s20 _ _ f0),(fun d z=>by cases z),rfl⟩
   | 1,ex,ey=>cases ex;cases ey;exact⟨e1,some d1,C,false,false,true,false,2,rfl,rfl,cl.nC,.inl (s20 _ _ f1),(fun d z=>by cases z;exact⟨_,s20 _ _ fd1⟩),rfl⟩
   | 2,ex,ey=>cases ex;cases ey;exact⟨e2,none,c3,false,false,false,true,3,rfl,rfl,cl.n3,.inl (s20 _ _ f2),(fun d z=>by cases z),rfl⟩
   | 3,ex,ey=>cases ex;cases ey;exact⟨e3,some d3,C,false,false,true,false,2,rfl,rfl,cl.nC,.inl (s20 _ _ f3),(fun d z=>by cases z;exact⟨_,s20 _ _ fd3⟩),rfl⟩
   | j+4,ex,ey=>cases ex
  subst ex ey;refine⟨_,rfl,e,dd,Xc,b1,b2,b3,b4,rfl,kn,ie,hd,fun G2 l sl hl0 hl=>⟨(by show 2<=sizeLine;decide),fun a1 ha1=> ?_⟩⟩;have sa:aA G2 (upd G2 a1 (.lst [.bl true,.bl true])):=(aA.refl G2).upd ha1;refine e_w (n:=80) (e' :=.lc (.cmp .Eq (.var 1) (.var 0)) (.rng (.cons (.con (.int 4)) .nil)) .no [3]) C0 (by kernel_rfl) ev (zo (K:=K) (sH.trans (s20.trans (sl.trans sa)))) fun u' G3 s3 ok=> ?_;obtain⟨m,us,rfl,hm0,hm,rl⟩:=ok;obtain rfl:us=[.bl b1,.bl b2,.bl b3,.bl b4]:=by
   unfold aF at rl;obtain⟨u1,r1,rfl,z1,rl⟩:=rl;unfold aF at rl;obtain⟨u2,r2,rfl,z2,rl⟩:=rl;unfold aF at rl;obtain⟨u3,r3,rfl,z3,rl⟩:=rl;unfold aF at rl;obtain⟨u4,r4,rfl,z4,rl⟩:=rl;unfold aF at rl;rw[rl,Rp.bl.mp z1,Rp.bl.mp z2,Rp.bl.mp z3,Rp.bl.mp z4]
  refine⟨a1,m,_,_,rfl,rfl,aj.of (s3 _ _ aD),aj.of hm,(by show 6<=sizeLine;decide),fun z hz=> ?_⟩;have rB:∀{H' :Hp}{q:Addr},H' q=some (.lst [.bl true,.bl true,.bl b1,.bl b2,.bl b3,.bl b4])->Rp K H false (.lst [.bl true,.bl true,.bl b1,.bl b2,.bl b3,.bl b4]) H' (.ref q):=fun h=>Rp.lst.mpr ⟨_,_,rfl,(fun z=>by cases z),aj.of h,.cons (Rp.bl.mpr rfl) (.cons (Rp.bl.mpr rfl) (.cons (Rp.bl.mpr rfl) (.cons (Rp.bl.mpr rfl) (.cons (Rp.bl.mpr rfl) (.cons (Rp.bl.mpr rfl) .nil)))))⟩;have sz:aA G3 (upd G3 z (.lst ([.bl true,.bl true]++[.bl b1,.bl b2,.bl b3,.bl b4]))):=(aA.refl G3).upd hz;refine⟨.lst [.bl true,.bl true,.bl b1,.bl b2,.bl b3,.bl b4],.lst [.bl true,.bl true,.bl b1,.bl b2,.bl b3,.bl b4],rfl,rfl,rB (sz _ _ (s3 _ _ (sa _ _ hl))),rB aD,_,rfl,?_⟩;rw[show(not (jV (.lst [.bl true,.bl true,.bl b1,.bl b2,.bl b3,.bl b4]) (.lst [.bl true,.bl true,.bl b1,.bl b2,.bl b3,.bl b4])))=false by cases b1<;>cases b2<;>cases b3<;>cases b4<;>rfl];exact kO ⟨_,_,rfl,s2.trans (sl.trans (sa.trans (s3.trans sz)))⟩
 ·rintro σ H' ⟨u,v,rfl,s'⟩
  have s20:=sM.trans s';refine⟨_,rfl,L,_,_,_,rfl,rfl,aj.of (s20 _ _ fL),rfl,e1,C,fI,d1,_,.ref t,rfl,.inl (s20 _ _ f1),s20 _ _ fd1,cl.cs.mx,rfl,_,rfl,(by show 2<=sizeLine;decide),fun z hz=> ?_⟩;have sz:aA H' (upd H' z (.tup [.int 1,.int n])):=(aA.refl H').upd hz;have rt:∀{G:Hp}{a:Addr},G a=some (.tup [.int 1,.int n])->Rp K G false (.tup [.int 1,.int n]) G (.ref a):=fun h=>Rp.tup.mpr ⟨_,_,rfl,bI.of h,.cons (Rp.int.mpr rfl) (.cons (Rp.int.mpr rfl) .nil)⟩;have e9:aB P (k+21) 9 [.tup [.int 1,.int n],.tup [.int 1,.int n]]=some (.bl true):=by
   rw[show k+21=2*2+(k+17)by omega];exact c9 2 (k+17) (.tup [.int 1,.int n]) (BD 2) rfl
  refine⟨_,_,.cons (rt (sz _ _ (s20 _ _ ft))) (.cons (rt aD) .nil),e9,fun u' H2 s2 ru=> ?_⟩;have s3:=s20.trans (sz.trans s2);refine⟨true,Rp.bl.mp ru,kN ⟨_,rfl,L,_,_,_,rfl,rfl,aj.of (s3 _ _ fL),rfl,e3,C,fI,d3,_,.non,rfl,.inl (s3 _ _ f3),s3 _ _ fd3,cl.cs.mx,rfl,?_⟩⟩;exact q _ _ (sH.trans s3) (Rp.bl.mpr rfl)
end
section
variable{cf:Nat->List PV->Option PV}{τ:En}
noncomputable def Kp(cf:Nat->List PV->Option PV)(τ:En)(es:fj)(vs:List PV):Prop:=∃rs,cL cf es τ=some rs/\keeps rs=some (vs,true)
theorem Kp.nil:Kp cf τ .nil []:=⟨[],rfl,rfl⟩
theorem Kp.cons{e:IE}{es:fj}{r:RV}{v:PV}{vs:List PV}(he:aL cf e τ=some r)(hr:r.keep=some (v,true))(h:Kp cf τ es vs):Kp cf τ (.cons e es) (v::vs):=by
 obtain⟨rs,h1,h2⟩:=h;refine⟨r::rs,?_,?_⟩
 ·rw[k9,he,h1]
  rfl
 ·show(r.keep.bind fun(v,n)=>(keeps rs).map fun(vs,m)=>(v::vs,n&&m))=_
  rw[hr,h2];rfl
theorem nX{es:fj}{vs:List PV}(h:Kp cf τ es vs)(hl:vs.length<=1000):aL cf (.lst es) τ=some (.own vs true):=by
 obtain⟨rs,h1,h2⟩:=h;rw[bh,h1];show((keeps rs).bind fun(vs,n)=>kE vs n)=_;rw[h2];show(if vs.length<=16777216 then some (RV.own vs true)else none)=_;rw[BK (by omega)]
theorem Ae{es:fj}{vs:List PV}(h:Kp cf τ es vs)(hl:vs.length<=1000):aL cf (.tup es) τ=some (.frz (.tup vs) true):=by
 obtain⟨rs,h1,h2⟩:=h;rw[bc,h1];show((keeps rs).bind fun(vs,n)=>kB vs n)=_;rw[h2];show(if vs.length<=16777216 then some (RV.frz (.tup vs) true)else none)=_;rw[BK (by omega)]
theorem wL{a b:IE}{xs ys:List PV}(ha:aL cf a τ=some (.frz (.tup xs) true))(hb:aL cf b τ=some (.frz (.tup ys) true))(hl:xs.length+ys.length<=1000):aL cf (.bin .Add a b) τ=some (.frz (.tup (xs++ys)) true):=by
 rw[bK,ha,hb];show(if(xs++ys).length<=16777216 then some (RV.frz (.tup (xs++ys)) true)else none)=_;rw[BK (by rw[BL];omega)]
theorem d7{a b:IE}{z y:Str}(ha:aL cf a τ=some (.frz (.str z) true))(hb:aL cf b τ=some (.frz (.str y) true))(hl:z.length+y.length<=5000):aL cf (.bin .Add a b) τ=some (.frz (.str (z++y)) true):=by
 rw[bK,ha,hb];show(if z.length+y.length<=16777216 then some (RV.frz (.str (z++y)) true)else none)=_;rw[BK (by omega)]
theorem jK{a:IE}{r:RV}{ys:List Str}(ha:aL cf a τ=some r)(hr:r.val=.tup (ys.map .str)\/r.val=.lst (ys.map .str))(hl:(ys.map (·.length)).sum+ys.length<=5000):aL cf (.mth .join (.con (.str "\n")) (.cons a .nil)) τ=some (.frz (.str (Str.join NL ys)) true):=by
 rw[bg,bL,k9,pH,ha];show oQ .join (.frz (.str "\n") true) [r]=_;have e:(if(ys.map (·.length)).sum+ys.length*Str.length "\n"<=16777216 then some (RV.frz (.str (jG "\n" ys)) true)else none)=some (.frz (.str (Str.join NL ys)) true):=by
  rw[BK (by show(ys.map (·.length)).sum+ys.length*1<=16777216;omega),jF];rfl
 unfold oQ
 rcases hr with hr|hr
 ·simp only[hr,bR]
  rw[fq];exact e
 ·simp only[hr,bR]
  rw[fq];exact e
theorem tz{xs:List PV}{j:Nat}(h:j<=xs.length):slice (.frz (.tup xs) true) none (some (j:Int))=some (.frz (.tup (xs.take j)) true):=by
 rw[iZ];have e1:HT.au xs.length 0 none=0:=rfl;have e2:HT.au xs.length xs.length (some (j:Int))=j:=by
  rw[HT.mZ];omega
 rw[e1,e2]
 split
 ·rename_i c
  rw[c.2,List.take_length]
 ·unfold cut
  rw[e1,e2];rfl
theorem uB{xs:List PV}{j:Nat}(h:j<=xs.length):slice (.frz (.tup xs) true) (some (j:Int)) none=some (.frz (.tup (xs.drop j)) true):=by
 rw[iZ];have e1:HT.au xs.length 0 (some (j:Int))=j:=by
  rw[HT.mZ];omega
 have e2:HT.au xs.length xs.length none=xs.length:=rfl;rw[e1,e2]
 split
 ·rename_i c
  rw[c.1,List.drop_zero]
 ·unfold cut
  rw[e1,e2,List.take_of_length_le];rw[CO];omega
end
noncomputable abbrev Pt(p:Str):Prop:=10∉p.cps.toList/\p.length<=30
theorem Pt.app{p q:Str}(h:Pt p)(h2:10∉q.cps.toList)(hl:p.length+q.length<=30):Pt (p++q):=by
 refine⟨fun z=> ?_,by rw[BQ];exact hl⟩;have z:10∈(p.cps++q.cps).toList:=z;rw[Array.toList_append]at z
 rcases Bq.mp z with z|z
 ·exact h.1 z
 ·exact h2 z
theorem av{parts:List Str}(h0:parts≠[])(hf:∀p∈parts,Pt p)(hl:parts.length<=20)(nb:¬UM.aU 8 parts):iG (.str (Str.join NL parts))=true:=by
 refine rG h0 (fun p hp=>(hf p hp).1) ?_ nb;have:=cJ (m:=30) fun p hp=>(hf p hp).2;omega
theorem aU.pt{rows:List Str}(b:UM.aU 8 rows):∀p∈rows,Pt p:=fun p hp=>by
 obtain⟨k,_,h8,hk⟩:=b.wide;exact⟨b.free p hp,by rw[hk p hp];omega⟩
theorem qK{rows:List Str}(b:UM.aU 8 rows){p:Str}(hp:Pt p)(i j:Nat):∀q∈rows.take i++[p]++rows.drop j,Pt q:=fun q hq=>by
 rcases Bq.mp hq with z|z
 ·rcases Bq.mp z with z|z
  ·exact aU.pt b q (List.mem_of_mem_take z)
  ·rw[Bp.mp z]
   exact hp
 ·exact aU.pt b q (Cv z)
theorem mh{rows:List Str}(b:UM.aU 8 rows){p:Str}(hp:Pt p):∀q∈rows++[p],Pt q:=fun q hq=>by
 rcases Bq.mp hq with z|z
 ·exact aU.pt b q z
 ·rw[Bp.mp z]
  exact hp
theorem ip{parts:List Str}{p:Str}{c:Nat}(hp:p∈parts)(hc:c∈p.cps.toList)(h1:c≠120)(h2:c≠46):¬UM.aU 8 parts:=fun b=>by
 rcases b.signs p hp c hc with z|z
 ·exact h1 z
 ·exact h2 z
theorem fe{parts:List Str}{p:Str}(hp:p∈parts)(h:p.length=0):¬UM.aU 8 parts:=fun b=>by
 obtain⟨k,h1,_,hk⟩:=b.wide;have:=hk p hp;omega
theorem xg{parts:List Str}{p q:Str}(hp:p∈parts)(hq:q∈parts)(h:p.length≠q.length):¬UM.aU 8 parts:=fun b=>by
 obtain⟨k,h1,_,hk⟩:=b.wide;exact h ((hk p hp).trans (hk q hq).symm)
noncomputable abbrev E0:Str:=""
theorem sv(z:Str):z++E0=z:=by
 show(⟨z.cps++ #[]⟩:Str)=z;rw[Array.append_empty]
theorem yt(z:Str):E0++z=z:=by
 show(⟨#[]++z.cps⟩:Str)=z;rw[Array.empty_append]
theorem ptE:Pt E0:=⟨by show 10∉[];simp,by show 0<=30;omega⟩
theorem ka(y:Str):∀(k:Nat)(a:Str),(List.replicate k y).foldl (·++·) a=a++(⟨(List.replicate k y.cps.toList).flatten.toArray⟩:Str)
 | 0,a=>(sv a).symm
 | k+1,a=>by
  rw[C4,List.foldl_cons,ka y k,bV,C4,List.flatten_cons];refine B4 (a++·) (UM.cx ?_);show(y.cps++_).toList=_;simp
section
variable{rows:List Str}(b:UM.aU 8 rows)
include b
theorem sp2:iG (.str (Str.join NL rows++NL))=true:=by
 have:=dB E0 b.some;rw[sv]at this;rw[<- this];exact av (by simp) (mh b ptE) (by have:=b.few;simp;omega) (fe (p:=E0) (by simp) rfl)
theorem sp3:iG (.str (NL++Str.join NL rows))=true:=by
 have:=gP E0 b.some;rw[yt]at this;rw[<- this];refine av (by simp) (fun q hq=> ?_) (by have:=b.few;simp;omega) (fe (p:=E0) (by simp) rfl)
 rcases BP.mp hq with rfl|z
 ·exact ptE
 ·exact aU.pt b q z
theorem sp4:iG (.str (Str.join NL rows++" "))=true:=by
 rw[iK " " b.some];have hm:=List.getLast_mem b.some;have hp:=aU.pt b _ hm;obtain⟨k,_,h8,hk⟩:=b.wide;have hl:=hk _ hm;refine av (by simp) (fun q hq=> ?_) (by have:=b.few;simp;omega) (ip (p:=rows.getLast b.some++" ") (c:=32) (by simp) ?_ (by decide) (by decide))
 ·rcases Bq.mp hq with z|z
  ·exact aU.pt b q (List.dropLast_subset _ z)
  ·rw[Bp.mp z]
   refine hp.app (by show 10∉[32];simp) ?_;show _+1<=30;omega
 ·show 32∈(_++ #[32]:Array Nat).toList
  simp
theorem sp5:iG (.str (" "++Str.join NL rows))=true:=by
 obtain⟨x,r,rfl⟩:=DD b.some;rw[oY];have hp:=aU.pt b x (by simp);obtain⟨k,_,h8,hk⟩:=b.wide;have hl:=hk x (by simp);refine av (by simp) (fun q hq=> ?_) (by have:=b.few;simp at this ⊢;omega) (ip (p:=" "++x) (c:=32) (by simp) ?_ (by decide) (by decide))
 ·rcases BP.mp hq with rfl|z
  ·refine Pt.app ⟨by show 10∉[32];simp,by show 1<=30;omega⟩ hp.1 ?_
   show 1+_<=30;omega
  ·exact aU.pt b q (BF _ z)
 ·show 32∈(#[32]++_:Array Nat).toList
  simp
theorem sp1{i:Nat}{p:Str}{c:Nat}(hp:Pt p)(hc:c∈p.cps.toList)(h1:c≠120)(h2:c≠46):iG (.str (Str.join NL (rows.take i++[p]++rows.drop (i+1))))=true:=by
 refine av (by simp) (qK b hp _ _) ?_ (ip (p:=p) (by simp) hc h1 h2);have:=b.few;rw[BL,BL,CN,CO];simp;omega
theorem sp6{i:Nat}:iG (.str (Str.join NL (rows.take i++[E0]++rows.drop i)))=true:=by
 refine av (by simp) (qK b ptE _ _) ?_ (fe (p:=E0) (by simp) rfl);have:=b.few;rw[BL,BL,CN,CO];simp;omega
noncomputable abbrev X8:Str:=⟨#[120,120,120,120,120,120,120,120]⟩
theorem sp7:iG (.str (Str.join NL (rows.map (·++X8))))=true:=by
 obtain⟨k,h1,h8,hk⟩:=b.wide;have hX:X8.length=8:=rfl;refine av (by simpa using b.some) (fun q hq=> ?_) (by have:=b.few;simp;omega) fun b2=> ?_
 ·obtain⟨p,hp,rfl⟩:=CI.mp hq
  exact(aU.pt b p hp).app (by show 10∉[120,120,120,120,120,120,120,120];simp) (by rw[hk p hp,hX];omega)
 ·obtain⟨k2,g1,g8,gk⟩:=b2.wide
  obtain⟨x,r,rfl⟩:=DD b.some;have:=gk (x++X8) (by simp);rw[BQ,hk x (by simp),hX]at this;omega
theorem sp8{x:Str}(hx:x∈rows):iG (.str (Str.join NL rows++(⟨(List.replicate 8 (NL++x).cps.toList).flatten.toArray⟩:Str)))=true:=by
 rw[<- ka,<-iJ x b.some 8];refine av (by simp) (fun q hq=> ?_) (by have:=b.few;simp;omega) fun b2=> ?_
 ·rcases Bq.mp hq with z|z
  ·exact aU.pt b q z
  ·rw[List.eq_of_mem_replicate z]
   exact aU.pt b x hx
 ·have:=b2.few
  have h0:=List.length_pos_iff.mpr b.some;rw[BL,CU]at this;omega
theorem sp9{x y:Str}(hx:x∈rows)(hy:Pt y)(hl:y.length≠x.length):iG (.str (Str.join NL rows++NL++y))=true:=by
 rw[<- dB y b.some];exact av (by simp) (mh b hy) (by have:=b.few;simp;omega) (xg (p:=y) (q:=x) (by simp) (by simp[hx]) hl)
end
theorem sp10:iG (.str "")=true:=by
 have:=av (parts:=[E0]) (by simp) (fun q hq=>by rw[Bp.mp hq];exact ptE) (by simp) (fe (p:=E0) (by simp) rfl);exact this
section
variable{cf:Nat->List PV->Option PV}{τ:En}{fu:Nat}
theorem eX{o:Bool}{i:Nat}{e:IE}{r:RV}{τ1:En}(he:aL cf e τ=some r)(hp:fF o i r τ=some τ1):de cf fu (.asg i o [] e) τ=some (.nx τ1):=by
 rw[lu];show((aL cf e τ).bind fun r=>(fF o i r τ).map Fl.nx)=_;rw[he,BO,hp];rfl
end
noncomputable abbrev dH(rows:List Str)(n:Int)(a b c d e f:TV):En:=[.frz (.tup (rows.map .str)) true,.frz (.int n) true,a,b,c,d,e,f]
noncomputable abbrev fS(z:Str):TV:=.frz (.str z) true
noncomputable abbrev fI(i:Nat):TV:=.frz (.int (i:Nat)) true
section
variable{cf:Nat->List PV->Option PV}{fu:Nat}{ss:mQ}{rows:List Str}{n:Int}{a b c d e f:TV}{xs:List PV}
theorem zg{es:fj}{vs:List PV}(he:Kp cf (dH rows n a b c d e (.frz (.lst xs) true)) es vs)(hx:xs.length+vs.length<=500):al cf fu (.cons (.asg 7 true [7] (.bin .Add (.var 7) (.lst es))) ss) (dH rows n a b c d e (.own xs true))=al cf fu ss (dH rows n a b c d e (.own (xs++vs) true)):=by
 refine cg ?_;rw[lu];show((aL cf (.bin .Add (.var 7) (.lst es)) (dH rows n a b c d e (.frz (.lst xs) true))).bind fun r=>(fF true 7 r (dH rows n a b c d e (.frz (.lst xs) true))).map Fl.nx)=_;rw[bK,nX he (by omega),bN];show((if(xs++vs).length<=16777216 then some (RV.own (xs++vs) true)else none).bind fun r=>(fF true 7 r (dH rows n a b c d e (.frz (.lst xs) true))).map Fl.nx)=_;rw[BK (by rw[BL];omega)];rfl
theorem vM{i j:Nat}{z:Str}(hi:aL cf ix τ0=some (.frz (.int (i:Nat)) true))(h0:dF τ0 0=some (.frz (.tup (rows.map .str)) true))(hz:rows[i]? =some z):aL cf (.ix (.var 0) ix) τ0=some (.frz (.str z) true):=by
 rw[ba,hi,bN,h0];show(dN (rows.map PV.str) ((i:Nat):Int)).map (fun e=>RV.frz e (true||imm e))=_;rw[wZ hz];rfl
theorem wK{e:IE}{z:Str}{τ:En}(he:aL cf e τ=some (.frz (.str z) true))(hz:z.length<=1000):aL cf (.bf .len (.cons e .nil)) τ=some (.frz (.int (z.length:Nat)) true):=by
 rw[bn,k9,he,pH];show(if z.length<=16777216 then some z.length else none).map (fun n=>sc (.int (n:Nat)))=_;rw[BK (by omega)];rfl
theorem Af{e j:IE}{z:Str}{m:Nat}{τ:En}(he:aL cf e τ=some (.frz (.str z) true))(hj:aL cf j τ=some (.frz (.int (m:Nat)) true))(hz:z.length<=1000):aL cf (.sl e .no (.yes j)) τ=some (.frz (.str ⟨(z.cps.toList.take m).toArray⟩) true):=by
 rw[bW,he,vt,vq,hj];show slice (.frz (.str z) true) none (some (m:Int))=_;rw[jv,BK (by show z.length<=16777216;omega),BK (by omega)];rfl
theorem sO{e j:IE}{z:Str}{m:Nat}{τ:En}(he:aL cf e τ=some (.frz (.str z) true))(hj:aL cf j τ=some (.frz (.int (m:Nat)) true))(hz:z.length<=1000):aL cf (.sl e (.yes j) .no) τ=some (.frz (.str ⟨(z.cps.toList.drop m).toArray⟩) true):=by
 rw[bW,he,vt,vq,hj];show slice (.frz (.str z) true) (some (m:Int)) none=_;rw[ju,BK (by show z.length<=16777216;omega),BK (by omega)];rfl
theorem e_tk{j:IE}{m:Nat}{τ:En}(h0:dF τ 0=some (.frz (.tup (rows.map .str)) true))(hj:aL cf j τ=some (.frz (.int (m:Nat)) true))(hm:m<=rows.length):aL cf (.sl (.var 0) .no (.yes j)) τ=some (.frz (.tup ((rows.take m).map .str)) true):=by
 rw[bW,bN,h0,vt,vq,hj,List.map_take];exact tz (by rw[BJ];exact hm)
theorem e_dr{j:IE}{m:Nat}{τ:En}(h0:dF τ 0=some (.frz (.tup (rows.map .str)) true))(hj:aL cf j τ=some (.frz (.int (m:Nat)) true))(hm:m<=rows.length):aL cf (.sl (.var 0) (.yes j) .no) τ=some (.frz (.tup ((rows.drop m).map .str)) true):=by
 rw[bW,bN,h0,vt,vq,hj,List.map_drop];exact uB (by rw[BJ];exact hm)
theorem fw{m:Nat}:∀{ys:List Str},(∀y∈ys,y.length<=m)->(ys.map (·.length)).sum<=ys.length*m
 | [],_=>Be _
 | y::ys,h=>by
  have:=h y (by simp);have:=fw (ys:=ys) fun z hz=>h z (BF _ hz);rw[BZ,List.sum_cons,BS,Nat.succ_mul];omega
theorem wJ{X i j:IE}{p:Str}{m m2:Nat}{τ:En}(b:UM.aU 8 rows)(h0:dF τ 0=some (.frz (.tup (rows.map .str)) true))(hX:aL cf X τ=some (.frz (.str p) true))(hp:p.length<=30)(hi:aL cf i τ=some (.frz (.int (m:Nat)) true))(hj:aL cf j τ=some (.frz (.int (m2:Nat)) true))(hm:m<=rows.length)(hm2:m2<=rows.length) :
  aL cf (.mth .join (.con (.str "\n")) (.cons (.bin .Add (.bin .Add (.sl (.var 0) .no (.yes i)) (.tup (.cons X .nil))) (.sl (.var 0) (.yes j) .no)) .nil)) τ=some (.frz (.str (Str.join NL (rows.take m++[p]++rows.drop m2))) true):=by
 have h8:=b.few;have l1:∀y∈rows.take m++[p]++rows.drop m2,y.length<=30:=fun y hy=>by
  rcases Bq.mp hy with z|z
  ·rcases Bq.mp z with z|z
   ·exact(aU.pt b y (List.mem_of_mem_take z)).2
   ·rw[Bp.mp z]
    exact hp
  ·exact(aU.pt b y (Cv z)).2
 have l2:(rows.take m++[p]++rows.drop m2).length<=17:=by
  rw[BL,BL,CN,CO];simp;omega
 refine jK (wL (wL (e_tk h0 hi hm) (Ae (Kp.cons hX rfl Kp.nil) (by simp)) ?_) (e_dr h0 hj hm2) ?_) (Or.inl ?_) ?_
 ·simp
  omega
 ·simp
  omega
 ·show PV.tup _=_
  rw[List.map_append,List.map_append];rfl
 ·have:=fw l1
  omega
end
noncomputable abbrev wv:List Str:=["X"," ","o","-",",","1","_","~"]
theorem zh:∀i:Nat,i<8->∃c,wv[i]? =some ⟨#[c]⟩/\c≠120/\c≠46/\c≠10
 | 0,_=>⟨88,rfl,by decide,by decide,by decide⟩
 | 1,_=>⟨32,rfl,by decide,by decide,by decide⟩
 | 2,_=>⟨111,rfl,by decide,by decide,by decide⟩
 | 3,_=>⟨45,rfl,by decide,by decide,by decide⟩
 | 4,_=>⟨44,rfl,by decide,by decide,by decide⟩
 | 5,_=>⟨49,rfl,by decide,by decide,by decide⟩
 | 6,_=>⟨95,rfl,by decide,by decide,by decide⟩
 | 7,_=>⟨126,rfl,by decide,by decide,by decide⟩
 | i+8,h=>absurd h (by omega)
noncomputable abbrev tL(fl:Fl):Prop:=∃v,cR (some fl)=some v/\∃xs,v=.lst xs/\∀x∈xs,iG x=true
noncomputable abbrev AB(xs:List PV):Prop:=∀x∈xs,iG x=true
theorem AB.add{xs ys:List PV}(h:AB xs)(h2:AB ys):AB (xs++ys):=fun x hx=>by
 rcases Bq.mp hx with z|z
 ·exact h x z
 ·exact h2 x z
theorem AB.nil:AB []:=fun x hx=>by cases hx
theorem AB.cons{y:PV}{ys:List PV}(h:iG y=true)(h2:AB ys):AB (y::ys):=fun x hx=>by
 rcases BP.mp hx with rfl|z
 ·exact h
 ·exact h2 x z
section
variable{rows:List Str}(bd:UM.aU 8 rows){x0:Str}(hx0:rows[0]? =some x0)(n:Int)
include bd hx0
theorem tl38(k:Nat)(a b c e:TV)(xs:List PV)(hx:AB xs)(hl:xs.length<=100):To (al (aB P k) 1000000 (cM 8 lD.body) (dH rows n a b c (fS (Str.join NL rows)) e (.own xs true))) tL:=by
 have hm:x0∈rows:=Bo hx0;have p0:=aU.pt bd x0 hm;obtain⟨w,w1,w8,hw⟩:=bd.wide;have hS:(Str.join NL rows).length<=160:=by
  have:=cJ (m:=8) (parts:=rows) fun p hp=>by rw[hw p hp];exact w8
  have:=bd.few;omega
 have e8:cM 8 lD.body=.cons (.ife (.val (.cmp .Gt (.bf .len (.cons (.ix (.var 0) (.con (.int 0))) .nil)) (.con (.int 1)))) (.cons (.app 7 [] (.bin .Add (.bin .Add (.var 5) (.con (.str "\n"))) (.sl (.ix (.var 0) (.con (.int 0))) (.yes (.con (.int 1))) .no))) .nil) .nil) (.cons (.ret [7] (.var 7)) .nil):=rfl;rw[e8,eO,rm];have i0:∀τ:En,dF τ 0=some (.frz (.tup (rows.map .str)) true)->aL (aB P k) (.ix (.var 0) (.con (.int 0))) τ=some (.frz (.str x0) true):=fun τ h=>vM (i:=0) (j:=0) rfl h hx0;have fin:∀ys:List PV,AB ys->To (al (aB P k) 1000000 (.cons (.ret [7] (.var 7)) .nil) (dH rows n a b c (fS (Str.join NL rows)) e (.own ys true))) tL:=fun ys hy=>by
  walk_at "ev";exact⟨_,rfl,ys,rfl,hy⟩
 have ec:dC (aB P k) (.val (.cmp .Gt (.bf .len (.cons (.ix (.var 0) (.con (.int 0))) .nil)) (.con (.int 1)))) (dH rows n a b c (fS (Str.join NL rows)) e (.own xs true))=some (decide ((1:Int)<(x0.length:Nat))):=by
  rw[pP,bj,wK (i0 _ rfl) (by omega),bL];rfl
 rw[ec,BO]
 by_cases h1:(1:Int)<(x0.length:Nat)
 ·rw[CB h1,BK rfl]
  have ev1:aL (aB P k) (.bin .Add (.bin .Add (.var 5) (.con (.str "\n"))) (.sl (.ix (.var 0) (.con (.int 0))) (.yes (.con (.int 1))) .no)) (dH rows n a b c (fS (Str.join NL rows)) e (.own xs true))=some (.frz (.str (Str.join NL rows++NL++⟨(x0.cps.toList.drop 1).toArray⟩)) true):=by
   refine d7 (d7 (y:=NL) rfl rfl ?_) (sO (m:=1) (i0 _ rfl) rfl (by omega)) ?_
   ·show _+1<=5000
    omega
   ·rw[BQ]
    have:(⟨(x0.cps.toList.drop 1).toArray⟩:Str).length<=x0.length:=by
     show(x0.cps.toList.drop 1).toArray.size<=x0.cps.size;simp
    show _+1+_<=5000;omega
  have sa:de (aB P k) 1000000 (.app 7 [] (.bin .Add (.bin .Add (.var 5) (.con (.str "\n"))) (.sl (.ix (.var 0) (.con (.int 0))) (.yes (.con (.int 1))) .no))) (dH rows n a b c (fS (Str.join NL rows)) e (.own xs true))=some (.nx (dH rows n a b c (fS (Str.join NL rows)) e (.own (xs++[.str (Str.join NL rows++NL++⟨(x0.cps.toList.drop 1).toArray⟩)]) true))):=by
   rw[rq];show((aL (aB P k) _ (dH rows n a b c (fS (Str.join NL rows)) e (.own xs true))).bind fun r=>r.keep.bind fun(v,m)=>j3 7 v m (dH rows n a b c (fS (Str.join NL rows)) e (.own xs true)))=_;rw[ev1];show j3 7 (PV.str (Str.join NL rows++NL++⟨(x0.cps.toList.drop 1).toArray⟩)) true (dH rows n a b c (fS (Str.join NL rows)) e (.own xs true))=_;rw[j2 rfl (by show xs.length<16777216;omega)];rfl
  rw[cg sa,gY,BO,cP];refine fin _ (hx.add (.cons (sp9 bd hm ⟨fun z=>p0.1 (Cv (i:=1) (l:=x0.cps.toList) z),?_⟩ ?_) .nil))
  ·show(x0.cps.toList.drop 1).toArray.size<=30
   have:x0.cps.size<=30:=p0.2;simp;omega
  ·show(x0.cps.toList.drop 1).toArray.size≠x0.cps.size
   have:1<x0.cps.size:=by
    have h1:(1:Int)<(x0.cps.size:Nat):=h1;omega
   simp;omega
 ·rw[Bh h1,BI BC,gY,BO,cP]
  exact fin _ hx
theorem tl37(k:Nat)(a b c e:TV)(xs:List PV)(hx:AB xs)(hl:xs.length<=50):To (al (aB P k) 1000000 (cM 7 lD.body) (dH rows n a b c (fS (Str.join NL rows)) e (.own xs true))) tL:=by
 have hm:x0∈rows:=Bo hx0;have p0:=aU.pt bd x0 hm;obtain⟨w,w1,w8,hw⟩:=bd.wide;have hS:(Str.join NL rows).length<=160:=by
  have:=cJ (m:=8) (parts:=rows) fun p hp=>by rw[hw p hp];exact w8
  have:=bd.few;omega
 have l0:x0.length<=8:=by rw[hw x0 hm];exact w8
 have e7:cM 7 lD.body=.cons (.asg 7 true [7] (.bin .Add (.var 7) (.lst (.cons (.bin .Add (.var 5) (.bin .Mult (.bin .Add (.con (.str "\n")) (.ix (.var 0) (.con (.int 0)))) (.con (.int 8)))) (.cons (.bin .Add (.bin .Add (.bin .Add (.var 5) (.con (.str "\n"))) (.ix (.var 0) (.con (.int 0)))) (.con (.str "x"))) (.cons (.con (.str "")) (.cons (.con .non) (.cons (.con (.int 0)) (.cons (.con (.bl true)) (.cons (.var 0) (.cons (.lst (.cons (.var 5) .nil)) (.cons .dnew .nil)))))))))))) (cM 8 lD.body):=rfl;have i0:∀τ:En,dF τ 0=some (.frz (.tup (rows.map .str)) true)->aL (aB P k) (.ix (.var 0) (.con (.int 0))) τ=some (.frz (.str x0) true):=fun τ h=>vM (i:=0) (j:=0) rfl h hx0;have lm:(NL++x0).length=1+x0.length:=by rw[BQ];rfl
 have l8:(⟨(List.replicate 8 (NL++x0).cps.toList).flatten.toArray⟩:Str).length<=200:=by
  show((List.replicate 8 (NL++x0).cps.toList).flatten.toArray).size<=200;have:(NL++x0).cps.toList.length=1+x0.length:=lm;simp only[BH,List.length_flatten,List.map_replicate,List.sum_replicate_nat,this];omega
 rw[e7,zg (vs:=[.str (Str.join NL rows++(⟨(List.replicate 8 (NL++x0).cps.toList).flatten.toArray⟩:Str)),.str (Str.join NL rows++NL++x0++"x"),.str "",.non,.int 0,.bl true,.tup (rows.map .str),.lst [.str (Str.join NL rows)],.dK [] []])
  (Kp.cons (d7 rfl (by
   rw[bK,d7 (z:=NL) rfl (i0 _ rfl) (by show 1+_<=5000;omega),bL];show(if(0:Int)<=8/\(8:Int)<=1000/\(NL++x0).length<=16 then some (sc (.str ⟨(List.replicate (8:Int).toNat (NL++x0).cps.toList).flatten.toArray⟩))else none)=_;rw[BK ⟨by omega,by omega,by omega⟩];rfl) (by omega)) rfl
  (Kp.cons (d7 (d7 (d7 (y:=NL) rfl rfl (by show _+1<=5000;omega)) (i0 _ rfl) (by rw[BQ];show _+1+_<=5000;omega)) rfl (by rw[BQ,BQ];show _+1+_+1<=5000;omega)) rfl
  (Kp.cons rfl rfl (Kp.cons rfl rfl (Kp.cons rfl rfl (Kp.cons rfl rfl (Kp.cons (r:=.frz (.tup (rows.map .str)) true) rfl rfl (Kp.cons (nX (Kp.cons rfl rfl Kp.nil) (by simp)) rfl (Kp.cons rfl rfl Kp.nil))))))))) (by simp;omega)]
 refine tl38 bd hx0 n k a b c e _ (hx.add (.cons (sp8 bd hm) (.cons ?_ (.cons sp10 (.cons rfl (.cons rfl (.cons rfl (.cons rfl (.cons rfl (.cons rfl .nil)))))))))) (by simp;omega);rw[bV _ x0];refine sp9 bd hm (p0.app (by show 10∉[120];simp) (by show _+1<=30;omega)) ?_;rw[BQ];show _+1≠_;omega
end
section
variable{rows:List Str}(bd:UM.aU 8 rows){x0:Str}(hx0:rows[0]? =some x0)(n:Int)
include bd hx0
theorem tl36(k:Nat)(i:Nat)(hi:i<rows.length)(b c e:TV)(xs:List PV)(hx:AB xs)(hl:xs.length<=20):To (al (aB P k) 1000000 (cM 6 lD.body) (dH rows n (fI i) b c (fS (Str.join NL rows)) e (.own xs true))) tL:=by
 obtain⟨w,w1,w8,hw⟩:=bd.wide;have h8:=bd.few;have e6:cM 6 lD.body=.cons (.asg 7 true [7] (.bin .Add (.var 7) (.lst (.cons (.mth .join (.con (.str "\n")) (.cons (.bin .Add (.bin .Add (.sl (.var 0) .no (.yes (.var 2))) (.tup (.cons (.con (.str "")) .nil))) (.sl (.var 0) (.yes (.var 2)) .no)) .nil)) (.cons (.mth .join (.con (.str "\n")) (.cons (.lc (.bin .Add (.var 0) (.bin .Mult (.con (.str "x")) (.con (.int 8)))) (.seq (.var 0)) .no []) .nil)) .nil))))) (cM 7 lD.body):=rfl;have elc:∀τ:En,dF τ 0=some (.frz (.tup (rows.map .str)) true)->aL (aB P k) (.lc (.bin .Add (.var 0) (.bin .Mult (.con (.str "x")) (.con (.int 8)))) (.seq (.var 0)) .no []) τ=some (.own ((rows.map (·++X8)).map .str) true):=fun τ h=>by
  have et:lv (aB P k) (.seq (.var 0)) τ=some (rows.map .str,true,false):=by
   rw[vp,bN,h];rfl
  rw[bi,et,BO];show(if(rows.map PV.str).length<=16777216 then _ else none)=_;rw[BK (by rw[BJ];omega),List.map_map,dZ (g:=fun z=>PV.str (z++X8))]
  ·rfl
  ·intro z hz
   have hz8:z.length<=8:=by rw[hw z hz];exact w8
   rw[zI,BO,BK rfl,d7 (y:=X8) rfl (by
    rw[bK,bL,bL];rfl) (by show _+8<=5000;omega)]
   rfl
 rw[e6,zg (vs:=[.str (Str.join NL (rows.take i++[E0]++rows.drop i)),.str (Str.join NL (rows.map (·++X8)))])
  (Kp.cons (wJ bd rfl rfl (by show 0<=30;omega) rfl rfl (by omega) (by omega)) rfl
  (Kp.cons (jK (elc _ rfl) (Or.inr rfl) (by
   have:=fw (m:=16) (ys:=rows.map (·++X8)) fun y hy=>by
    obtain⟨p,hp,rfl⟩:=CI.mp hy;rw[BQ,hw p hp];show _+8<=16;omega
   rw[BJ]at this ⊢;omega)) rfl Kp.nil)) (by simp;omega)]
 exact tl37 bd hx0 n k (fI i) b c e _ (hx.add (.cons (sp6 bd) (.cons (sp7 bd) .nil))) (by simp;omega)
theorem tl35(k:Nat)(i j:Nat)(hi:i<rows.length){z:Str}(hz:rows[i]? =some z)(hj:j<z.length){c:Nat}(c1:c≠120)(c2:c≠46)(c3:c≠10)(e f:TV):To (al (aB P k) 1000000 (cM 4 lD.body) (dH rows n (fI i) (fI j) (fS ⟨#[c]⟩) (fS (Str.join NL rows)) e f)) tL:=by
 obtain⟨w,w1,w8,hw⟩:=bd.wide;have hm:z∈rows:=Bo hz;have pz:=aU.pt bd z hm;have lz:z.length<=8:=by rw[hw z hm];exact w8
 have hS:(Str.join NL rows).length<=160:=by
  have:=cJ (m:=8) (parts:=rows) fun p hp=>by rw[hw p hp];exact w8
  have:=bd.few;omega
 have e4:cM 4 lD.body=.cons (.asg 6 false [] (.bin .Add (.bin .Add (.sl (.ix (.var 0) (.var 2)) .no (.yes (.var 3))) (.var 4)) (.sl (.ix (.var 0) (.var 2)) (.yes (.bin .Add (.var 3) (.con (.int 1)))) .no))) (.cons (.asg 7 true [] (.lst (.cons (.mth .join (.con (.str "\n")) (.cons (.bin .Add (.bin .Add (.sl (.var 0) .no (.yes (.var 2))) (.tup (.cons (.var 6) .nil))) (.sl (.var 0) (.yes (.bin .Add (.var 2) (.con (.int 1)))) .no)) .nil)) (.cons (.bin .Add (.var 5) (.con (.str "\n"))) (.cons (.bin .Add (.con (.str "\n")) (.var 5)) (.cons (.bin .Add (.var 5) (.con (.str " "))) (.cons (.bin .Add (.con (.str " ")) (.var 5)) .nil))))))) (cM 6 lD.body)):=rfl;have ii:∀τ:En,dF τ 0=some (.frz (.tup (rows.map .str)) true)->dF τ 2=some (.frz (.int (i:Nat)) true)->aL (aB P k) (.ix (.var 0) (.var 2)) τ=some (.frz (.str z) true):=fun τ h h2=>vM (i:=i) (j:=0) h2 h hz;have t1:(⟨(z.cps.toList.take j).toArray⟩:Str).length<=8:=by
  show(z.cps.toList.take j).toArray.size<=8;have:z.cps.size<=8:=lz;simp;omega
 have t2:(⟨(z.cps.toList.drop (j+1)).toArray⟩:Str).length<=8:=by
  show(z.cps.toList.drop (j+1)).toArray.size<=8;have:z.cps.size<=8:=lz;simp;omega
 have el:aL (aB P k) (.bin .Add (.bin .Add (.sl (.ix (.var 0) (.var 2)) .no (.yes (.var 3))) (.var 4)) (.sl (.ix (.var 0) (.var 2)) (.yes (.bin .Add (.var 3) (.con (.int 1)))) .no)) (dH rows n (fI i) (fI j) (fS ⟨#[c]⟩) (fS (Str.join NL rows)) e f)=some (.frz (.str ((⟨(z.cps.toList.take j).toArray⟩:Str)++⟨#[c]⟩++⟨(z.cps.toList.drop (j+1)).toArray⟩)) true):=by
  refine d7 (d7 (Af (ii _ rfl rfl) rfl (by omega)) rfl (by show _+1<=5000;omega)) (sO (m:=j+1) (ii _ rfl rfl) rfl (by omega)) ?_;rw[BQ];show _+1+_<=5000;omega
 generalize hp:(⟨(z.cps.toList.take j).toArray⟩:Str)++⟨#[c]⟩++⟨(z.cps.toList.drop (j+1)).toArray⟩=p at el
 have pp:Pt p:=by
  rw[<- hp];refine Pt.app (Pt.app ⟨fun y=>pz.1 (List.mem_of_mem_take (i:=j) (l:=z.cps.toList) y),by omega⟩ (by show 10∉[c];simp;omega) (by show _+1<=30;omega)) (fun y=>pz.1 (Cv (i:=j+1) (l:=z.cps.toList) y)) ?_;rw[BQ];show _+1+_<=30;omega
 have pc:c∈p.cps.toList:=by
  rw[<- hp];show c∈((z.cps.toList.take j).toArray++ #[c]++(z.cps.toList.drop (j+1)).toArray).toList;simp
 have es:aL (aB P k) (.lst (.cons (.mth .join (.con (.str "\n")) (.cons (.bin .Add (.bin .Add (.sl (.var 0) .no (.yes (.var 2))) (.tup (.cons (.var 6) .nil))) (.sl (.var 0) (.yes (.bin .Add (.var 2) (.con (.int 1)))) .no)) .nil)) (.cons (.bin .Add (.var 5) (.con (.str "\n"))) (.cons (.bin .Add (.con (.str "\n")) (.var 5)) (.cons (.bin .Add (.var 5) (.con (.str " "))) (.cons (.bin .Add (.con (.str " ")) (.var 5)) .nil)))))) (dH rows n (fI i) (fI j) (fS ⟨#[c]⟩) (fS (Str.join NL rows)) (fS p) f)=some (.own [.str (Str.join NL (rows.take i++[p]++rows.drop (i+1))),.str (Str.join NL rows++NL),.str (NL++Str.join NL rows),.str (Str.join NL rows++" "),.str (" "++Str.join NL rows)] true):=by
  refine nX (Kp.cons (wJ (m:=i) (m2:=i+1) bd rfl rfl pp.2 rfl rfl (by omega) (by omega)) rfl (Kp.cons (d7 (y:=NL) rfl rfl ?_) rfl (Kp.cons (d7 (z:=NL) rfl rfl ?_) rfl (Kp.cons (d7 rfl rfl ?_) rfl (Kp.cons (d7 rfl rfl ?_) rfl Kp.nil))))) (by simp)
  ·show _+1<=5000
   omega
  ·show 1+_<=5000
   omega
  ·show _+1<=5000
   omega
  ·show 1+_<=5000
   omega
 rw[e4,cg (eX el (τ1:=dH rows n (fI i) (fI j) (fS ⟨#[c]⟩) (fS (Str.join NL rows)) (fS p) f) rfl),cg (eX es (τ1:=dH rows n (fI i) (fI j) (fS ⟨#[c]⟩) (fS (Str.join NL rows)) (fS p) (.own [.str (Str.join NL (rows.take i++[p]++rows.drop (i+1))),.str (Str.join NL rows++NL),.str (NL++Str.join NL rows),.str (Str.join NL rows++" "),.str (" "++Str.join NL rows)] true)) rfl)];exact tl36 bd hx0 n k i hi (fI j) (fS ⟨#[c]⟩) (fS p) _ (.cons (sp1 bd pp pc c1 c2) (.cons (sp2 bd) (.cons (sp3 bd) (.cons (sp4 bd) (.cons (sp5 bd) .nil))))) (by simp)
theorem c38(k:Nat):∃v,aB P (k+1) 38 [.tup (rows.map .str),.int n]=some v/\∃xs,v=.lst xs/\∀x∈xs,iG x=true:=by
 refine qD rfl rfl ?_;obtain⟨w,w1,w8,hw⟩:=bd.wide;have h8:=bd.few;have h0:=List.length_pos_iff.mpr bd.some;have l0:x0.length=w:=hw x0 (Bo hx0);have ims:=kW rows;have en:entry lD [.tup (rows.map .str),.int n]=dH rows n .un .un .un .un .un .un:=by
  simp only[lD,entry];walk_at "ev";rw[ims]
 have lm:(rows.map PV.str).length=rows.length:=BJ ..;obtain⟨i,ei⟩:∃j:Nat,n%(rows.length:Int)=j:=⟨(n%(rows.length:Int)).toNat,by have:=Cz n (b:=rows.length) (by omega);omega⟩;have hi:i<rows.length:=by have:=Ci n (b:=rows.length) (by omega);omega
 obtain⟨j,ej⟩:∃j:Nat,n/8%(x0.length:Int)=j:=⟨(n/8%(x0.length:Int)).toNat,by have:=Cz (n/8) (b:=x0.length) (by omega);omega⟩;have hj:j<w:=by have:=Ci (n/8) (b:=x0.length) (by omega);omega
 obtain⟨m,em⟩:∃j:Nat,n/64%8=j:=⟨(n/64%8).toNat,by omega⟩;obtain⟨c,hc,c1,c2,c3⟩:=zh m (by omega);have hz:rows[i]? =some rows[i]:=BU hi;have e0:lD.body=.cons (.asg 2 false [] (.bin .Mod (.var 1) (.bf .len (.cons (.var 0) .nil)))) (.cons (.asg 3 false [] (.bin .Mod (.bin .FloorDiv (.var 1) (.con (.int 8))) (.bf .len (.cons (.ix (.var 0) (.con (.int 0))) .nil)))) (.cons (.asg 4 false [] (.ix (.lst (.cons (.con (.str "X")) (.cons (.con (.str " ")) (.cons (.con (.str "o")) (.cons (.con (.str "-")) (.cons (.con (.str ",")) (.cons (.con (.str "1")) (.cons (.con (.str "_")) (.cons (.con (.str "~")) .nil))))))))) (.bin .Mod (.bin .FloorDiv (.var 1) (.con (.int 64))) (.con (.int 8))))) (.cons (.asg 5 false [] (.mth .join (.con (.str "\n")) (.cons (.var 0) .nil))) (cM 4 lD.body)))):=rfl;have v1:aL (aB P k) (.bin .Mod (.var 1) (.bf .len (.cons (.var 0) .nil))) (dH rows n .un .un .un .un .un .un)=some (.frz (.int (i:Nat)) true):=by
  show(if(0:Int)<((rows.map PV.str).length:Int)then some (sc (.int (n%((rows.map PV.str).length:Int))))else none)=_;rw[lm,BK (by omega),ei]
 have v2:aL (aB P k) (.bin .Mod (.bin .FloorDiv (.var 1) (.con (.int 8))) (.bf .len (.cons (.ix (.var 0) (.con (.int 0))) .nil))) (dH rows n (fI i) .un .un .un .un .un)=some (.frz (.int (j:Nat)) true):=by
  rw[bK,wK (vM (i:=0) (j:=0) rfl rfl hx0) (by omega),bK,bN,bL];show((if(0:Int)<8/\(8:Int)<2^200 then some (sc (.int (n/8)))else none).bind fun a=>cr .Mod a (.frz (.int (x0.length:Nat)) true))=_;rw[BK ⟨by omega,by decide⟩,BO];show(if(0:Int)<(x0.length:Nat)then some (sc (.int (n/8%(x0.length:Nat))))else none)=_;rw[BK (by omega),ej]
 have v3:aL (aB P k) (.ix (.lst (.cons (.con (.str "X")) (.cons (.con (.str " ")) (.cons (.con (.str "o")) (.cons (.con (.str "-")) (.cons (.con (.str ",")) (.cons (.con (.str "1")) (.cons (.con (.str "_")) (.cons (.con (.str "~")) .nil))))))))) (.bin .Mod (.bin .FloorDiv (.var 1) (.con (.int 64))) (.con (.int 8)))) (dH rows n (fI i) (fI j) .un .un .un .un)=some (.frz (.str ⟨#[c]⟩) true):=by
  have q:aL (aB P k) (.bin .Mod (.bin .FloorDiv (.var 1) (.con (.int 64))) (.con (.int 8))) (dH rows n (fI i) (fI j) .un .un .un .un)=some (.frz (.int (m:Nat)) true):=by
   rw[bK,bK,bN,bL,bL];show((if(0:Int)<64/\(64:Int)<2^200 then some (sc (.int (n/64)))else none).bind fun a=>cr .Mod a (.frz (.int 8) true))=_;rw[BK ⟨by omega,by decide⟩,BO];show(if(0:Int)<8 then some (sc (.int (n/64%8)))else none)=_;rw[BK (by omega),em]
  rw[ba,q,nX (vs:=wv.map .str) (Kp.cons rfl rfl (Kp.cons rfl rfl (Kp.cons rfl rfl (Kp.cons rfl rfl (Kp.cons rfl rfl (Kp.cons rfl rfl (Kp.cons rfl rfl (Kp.cons rfl rfl Kp.nil)))))))) (by simp)];show(dN (wv.map PV.str) (m:Int)).map _=_;rw[fi (v:=PV.str ⟨#[c]⟩) (by rw[Bi,hc];rfl)];rfl
 have v4:aL (aB P k) (.mth .join (.con (.str "\n")) (.cons (.var 0) .nil)) (dH rows n (fI i) (fI j) (fS ⟨#[c]⟩) .un .un .un)=some (.frz (.str (Str.join NL rows)) true):=by
  refine jK (r:=.frz (.tup (rows.map .str)) true) rfl (Or.inl rfl) ?_;have:=fw (m:=8) (ys:=rows) fun p hp=>by rw[hw p hp];exact w8
  omega
 rw[e0,en,cg (eX v1 (τ1:=dH rows n (fI i) .un .un .un .un .un) rfl),cg (eX v2 (τ1:=dH rows n (fI i) (fI j) .un .un .un .un) rfl),cg (eX v3 (τ1:=dH rows n (fI i) (fI j) (fS ⟨#[c]⟩) .un .un .un) rfl),cg (eX v4 (τ1:=dH rows n (fI i) (fI j) (fS ⟨#[c]⟩) (fS (Str.join NL rows)) .un .un) rfl)];exact tl35 bd hx0 n k i j hi hz (by rw[hw _ (Bo hz)];exact hj) c1 c2 c3 .un .un
end
noncomputable abbrev oj(ns:List Int)(rows:List Str)(r:Int)(e:TV):En:=[.frz (.lst (ns.map PV.int)) false,.frz (.tup (rows.map PV.str)) true,.frz (.int r) true,e]
theorem n8(k:Nat)(rows:List Str):aB P (k+4) 9 [.tup (rows.map .str),.tup (rows.map .str)]=some (.bl true):=by
 have h1:∀rows:List Str,depth.depths (rows.map PV.str)<=1/\plain.plains (rows.map PV.str)=true:=fun rows=>by
  induction rows with
  | nil=>exact⟨by simp[depth.depths],rfl⟩
  | cons y ys ih =>
   rw[BZ,depth.depths,depth,plain.plains,ih.2]
   ·exact⟨by have:=ih.1;omega,rfl⟩
   ·exact fun _ h=>by cases h
   ·exact fun _ h=>by cases h
 have:=c9 2 k (.tup (rows.map .str)) (by rw[depth];have:=(h1 rows).1;omega) (by rw[plain];exact(h1 rows).2)
 rwa [show 2*2+k=k+4 by omega]at this
theorem rM:∀ns:List Int,ns.length<=63->aB P 40 40 [.lst (ns.map PV.int)]=some (.bl true):=by
 intro ns h63;obtain⟨v6,e6,rows,bd,rfl⟩:=c35 37 (ns.getD 0 0) (ns.getD 1 0) 8 (by decide) (by decide);obtain⟨r,_,_,e5⟩:=c5 38 (ns.getD 2 0) 2 (by decide) (by decide);obtain⟨x0,rs,er⟩:=DD bd.some;obtain⟨v,e38,xs,rfl,B⟩:=c38 bd (x0:=x0) (by rw[er];rfl) r 38;obtain⟨w,w1,w8,hw⟩:=bd.wide;have h8:=bd.few;have hS:(Str.join NL rows).length<=1000:=by
  have:=cJ (m:=8) (parts:=rows) fun p hp=>by rw[hw p hp];exact w8
  omega
 have e6:aB P 39 35 [.int (ns.getD 0 0),.int (ns.getD 1 0),.int 8]=some (.tup (rows.map PV.str)):=e6;have e5:aB P 39 5 [.int (ns.getD 2 0),.int 2]=some (.int r):=e5;have e38:aB P 39 38 [.tup (rows.map .str),.int r]=some (.lst xs):=e38;have a0:aB P 39 4 [.lst (ns.map PV.int),.int 0]=some (.int (ns.getD 0 0)):=c4 38 ns 0;have a1:aB P 39 4 [.lst (ns.map PV.int),.int 1]=some (.int (ns.getD 1 0)):=c4 38 ns 1;have a2:aB P 39 4 [.lst (ns.map PV.int),.int 2]=some (.int (ns.getD 2 0)):=c4 38 ns 2;have e39:aB P 39 39 [.int r]=some (.bl true):=rY (k:=17) rfl rfl;have e32:aB P 39 32 [.str (Str.join NL rows)]=some (.tup (rows.map .str)):=c32 33 bd hS;have e9:aB P 39 9 [.tup (rows.map .str),.tup (rows.map .str)]=some (.bl true):=n8 35 rows;have ej:∀e,aL (aB P 39) (.mth .join (.con (.str "\n")) (.cons (.var 1) .nil)) (oj ns rows r e)=some (.frz (.str (Str.join NL rows)) true):=fun e=>by
  refine jK (r:=.frz (.tup (rows.map .str)) true) rfl (Or.inl rfl) ?_;have:=fw (m:=8) (ys:=rows) fun p hp=>by rw[hw p hp];exact w8
  omega
 refine wA rfl rfl ?_;simp only[d40,entry];walk_at "ev";rw[a0];walk_at "ev";rw[a1];walk_at "ev";rw[e6];walk_at "ev";rw[a2];walk_at "ev";rw[e5];walk_at "ev";refine nU (xs:=xs) (n:=true) ?_ (fun i τ=>∃e,τ=oj ns rows r e) ⟨.un,rfl⟩ ?_ ?_
 ·walk_at "ev"
  rw[e38];walk_at "ev"
 ·rintro i y τ hy ⟨e,rfl⟩
  refine⟨oj ns rows r (.frz y true),rfl,?_⟩;have e37:aB P 39 37 [y]=some (.bl true):=rY (k:=17) rfl (uH (B y (Bo hy)));walk_at "ev";rw[e37];walk_at "ev";exact⟨_,rfl⟩
 ·rintro τ ⟨e,rfl⟩
  have ec:aL (aB P 39) ((IE.call 39 (fj.cons (IE.var 2) fj.nil)).and (IE.call 9 (fj.cons (IE.call 32 (fj.cons (IE.mth Bm.join (IE.con (PV.str "\n")) (fj.cons (IE.var 1) fj.nil)) fj.nil)) (fj.cons (IE.var 1) fj.nil)))) (oj ns rows r e)=some (.frz (.bl true) true):=by
   rw[bo,bZ,bZ,k9,k9,bZ,k9,ej];walk_at "ev";rw[e39];walk_at "ev";rw[e32];walk_at "ev";rw[e9];walk_at "ev"
  rw[eO,lq];rw[show aw [] (oj ns rows r e)=oj ns rows r e from rfl,ec];exact⟨_,rfl,rfl⟩
end Law
namespace Law
open PySem PySem.Spec PyProof.Rows L2 IR
noncomputable abbrev zD(nm:Str)(ps:List Str)(st:Stmt):Prop:=∀(kV doc pm:Value)(an:Option Addr)(cdv ct:Value)(us:List Value),us.length=ps.length->bindArgs (W.fnOf nm nm (bC st) (aZ st) (aH st) .none kV doc pm an cdv ct) ⟨us,[]⟩=pure (ps.zip us)
local macro_rules | `(tactic| walk_at "bd1") => `(tactic| (intro _ _ _ _ _ _ us hl; obtain ⟨_, h⟩ := rL hl; subst h; rfl))
local macro_rules | `(tactic| walk_at "bd2") => `(tactic| (intro _ _ _ _ _ _ us hl; obtain ⟨_, _, h⟩ := AR hl; subst h; rfl))
local macro_rules | `(tactic| walk_at "bd3") => `(tactic| (intro _ _ _ _ _ _ us hl; obtain ⟨_, _, _, h⟩ := len3 hl; subst h; rfl))
local macro_rules | `(tactic| walk_at "sc") => `(tactic| exact ⟨rfl, rfl, rfl, by decide +kernel, rfl, by decide +kernel, by decide +kernel⟩)
theorem nO{K:W.Frag}{h:Heap}{mg:Str->Option Value}{x:Str}(X:K.In h)(Gh:h.Ns mainGlobals mg)(z:W.nsIn K mainGlobals x=some none):mg x=none:=W.mg_none_of X Gh z
structure FI(K:W.Frag)(nm:Str)(st:Stmt)(f:Addr)(oc kV doc pm cd ct:Value)(od an:Option Addr)(sl:Array (Option Value)):Prop where
 a:W.nsIn K mainGlobals nm=some (some (.ref f))
 l:K.lookup f=some ⟨oc,od,.func (W.fnOf nm nm (bC st) (aZ st) (aH st) .none kV doc pm an cd ct),sl⟩
 c:W.codeIn K cd nm=true
 k:W.keepIn K (.ref f)=true
section
variable{K:W.Frag}{h:Heap}{mg:Str->Option Value}{nm:Str}{ps:List Str}{st:Stmt}{f:Addr}{k:Nat}{oc kV doc pm cd ct:Value}{od an:Option Addr}{sl:Array (Option Value)}(X:K.In h)(Gh:h.Ns mainGlobals mg)(a:FI K nm st f oc kV doc pm cd ct od an sl)
include X Gh a
theorem AM(b:zD nm ps st):tU K mg nm st ps f (W.fnOf nm nm (bC st) (aZ st) (aH st) .none kV doc pm an cd ct):=⟨rf a.l a.c a.k,DK X Gh a.a,(rf a.l a.c a.k).binds b⟩
theorem rJ(N:List Str)(n:Nat)(M:List Nat){body:mQ}(b:zD nm (N.take n) st)(sc:ax N (N.take n) (aH st))(e:P k=some ⟨N.length,(N.take n).length,body⟩)(tr:dE 80 ⟨N,(aH st).names,F,G,B,M⟩ (aZ st)=body):mS K mg P F G B nm k f (W.fnOf nm nm (bC st) (aZ st) (aH st) .none kV doc pm an cd ct) (N.take n):=⟨.inr ⟨st,N,M,80,body,AM X Gh a b,sc,e,tr⟩⟩
end
theorem yi{l:W.OpenLaw}{w:World}{K:W.Frag}{h:Heap}{mg:Str->Option Value}{fa f0 f1 f2 f3 f4 f5 f6 f7 f8 f9 f10 f11 f12 f13 f14:Addr}(X:K.In h)(Gh:h.Ns mainGlobals mg)(hfa:mg "law"=some (.ref fa))
  {q0 x0 q1 x1 q2 x2 q3 x3 q4 x4 q5 x5 q6 x6 q7 x7 q8 x8 q9 x9 q10 x10 q11 x11 q12 x12 q13 x13 q14 x14:Option Addr} {r0 r1 r2 r3 r4 r5 r6 r7 r8 r9 r10 r11 r12 r13 r14:Array (Option Value)} {p0 t0 u0 w0 y0 m0 p1 t1 u1 w1 y1 m1 p2 t2 u2 w2 y2 m2 p3 t3 u3 w3 y3 m3 p4 t4 u4 w4 y4 m4 p5 t5 u5 w5 y5 m5 p6 t6 u6 w6 y6 m6 p7 t7 u7 w7 y7 m7 p8 t8 u8 w8 y8 m8 p9 t9 u9 w9 y9 m9 p10 t10 u10 w10 y10 m10 p11 t11 u11 w11 y11 m11 p12 t12 u12 w12 y12 m12 p13 t13 u13 w13 y13 m13 p14 t14 u14 w14 y14 m14:Value}
  {tk0 tk1 tk2:Tok}
  (a0:FI K "is_side" s0 f0 p0 t0 u0 w0 y0 m0 q0 x0 r0)
  (a1:FI K "is_line" s1 f1 p1 t1 u1 w1 y1 m1 q1 x1 r1)
  (a2:FI K "is_board" s2 f2 p2 t2 u2 w2 y2 m2 q2 x2 r2)
  (a3:FI K "read_board" n9 f3 p3 t3 u3 w3 y3 m3 q3 x3 r3)
  (a4:FI K "_law_cell" s4 f4 p4 t4 u4 w4 y4 m4 q4 x4 r4)
  (a5:FI K "_law_mixed" s5 f5 p5 t5 u5 w5 y5 m5 q5 x5 r5)
  (a6:FI K "_law_board" s35 f6 p6 t6 u6 w6 y6 m6 q6 x6 r6)
  (a7:FI K "_law_whole" s8 f7 p7 t7 u7 w7 y7 m7 q7 x7 r7)
  (a8:FI K "_law_same" s9 f8 p8 t8 u8 w8 y8 m8 q8 x8 r8)
  (a9:FI K "_law_all_same" s10 f9 p9 t9 u9 w9 y9 m9 q9 x9 r9)
  (a10:FI K "_law_kinds" zj f10 p10 t10 u10 w10 y10 m10 q10 x10 r10)
  (a11:FI K "_law_refused" s37 f11 p11 t11 u11 w11 y11 m11 q11 x11 r11)
  (a12:FI K "_law_spoiled" s38 f12 p12 t12 u12 w12 y12 m12 q12 x12 r12)
  (a13:FI K "_law_errors" yy f13 p13 t13 u13 w13 y13 m13 q13 x13 r13)
  (a14:FI K "law" s40 f14 p14 t14 u14 w14 y14 m14 q14 x14 r14)
  (z0:W.nsIn K mainGlobals "len"=some none)
  (z1:W.nsIn K mainGlobals "int"=some none)
  (z2:W.nsIn K mainGlobals "list"=some none)
  (z3:W.nsIn K mainGlobals "tuple"=some none)
  (z4:W.nsIn K mainGlobals "all"=some none)
  (z5:W.nsIn K mainGlobals "isinstance"=some none)
  (z6:W.nsIn K mainGlobals "str"=some none)
  (z7:W.nsIn K mainGlobals "bool"=some none)
  (z8:W.nsIn K mainGlobals "range"=some none)
  (z9:W.nsIn K mainGlobals "zip"=some none)
  (z10:W.nsIn K mainGlobals "ValueError"=some none)
  (v0:W.nsIn K mainGlobals "CELL"=some (some (.str "x" tk0)))
  (v1:W.nsIn K mainGlobals "HOLE"=some (some (.str "." tk1)))
  (v2:W.nsIn K mainGlobals "GREATEST_SIDE"=some (some (.int 8 tk2)))
  {g0 g1 g2 g3 g4 gi gT:Addr} {cd0_ cd1_ cd2_ cd3_ cd4_:ClassData} {iq ix iz:Option Addr} {ir is_:Array (Option Value)} {it iu iw iy im iv:Value} {in_:Nat}
  (y0:W.nsIn K mainGlobals "NoStair"=some (some (.ref g0))) (yc0:W.clsIn K g0=some cd0_) (yt0:W.typeIn K (.ref g0)=some (.type "type"))
  (y1:W.nsIn K mainGlobals "BoardError"=some (some (.ref g1))) (yc1:W.clsIn K g1=some cd1_) (yt1:W.typeIn K (.ref g1)=some (.type "type"))
  (y2:W.nsIn K mainGlobals "NoBoard"=some (some (.ref g2))) (yc2:W.clsIn K g2=some cd2_) (yt2:W.typeIn K (.ref g2)=some (.type "type"))
  (y3:W.nsIn K mainGlobals "NoPlacing"=some (some (.ref g3))) (yc3:W.clsIn K g3=some cd3_) (yt3:W.typeIn K (.ref g3)=some (.type "type"))
  (y4:W.nsIn K mainGlobals "TooGreat"=some (some (.ref g4))) (yc4:W.clsIn K g4=some cd4_) (yt4:W.typeIn K (.ref g4)=some (.type "type"))
  (j1:W.findIn K (.ref g0) "__init__"=some (some (.ref gi))) (i1:K.lookup gi=some ⟨.type "function",iq,.func (W.fnOf "__init__" "NoStair.__init__" (bC sI) (aZ sI) (aH sI) (.ref gT) it iu iw ix iy im),ir⟩) (i2:W.codeIn K iy "NoStair.__init__"=true) (i3:K.lookup gT=some ⟨iv,iz,.seq #[.none] in_,is_⟩)
  (h0:W.keepIn K (.ref g0)=true) (h1:W.findIn K (.ref g0) "__setattr__"=some (some (.builtin "object.__setattr__"))) (h2:W.hasDictIn K g0=true) (h3:W.takerIn K g0 "rows"=some none) (h4:W.findIn K (.ref g0) "rows"=some none)
  (e0:W.findIn K (.ref g0) "__getattribute__"=some (some (.builtin "BaseException.__getattribute__"))) (e1:W.findIn K (.ref g0) "__getattr__"=some none) (e2:W.findIn K (.ref g0) "__class__"=some (some (.builtin "object.__class__")))
  (e3:W.specialIn K (.builtin "object.__class__") "__get__"=some (some (.builtin "getset_descriptor.__get__"))) (e4:W.takesIn K (.builtin "object.__class__")=some true) (e5:W.mroIn K g0 (.type "object")=some true) (e6:W.mroIn K g0 (.type "BaseException")=some true)
  (b0:W.subIn K (.ref g0) (.ref g0)=some true) (b1:W.subIn K (.ref g0) (.ref g1)=some true) (b2:W.subIn K (.ref g1) (.type "BaseException")=some true) (b3:W.subIn K (.ref g0) (.type "ValueError")=some true)
  (b4:W.subIn K (.ref g0) (.ref g2)=some false) (b5:W.subIn K (.ref g0) (.ref g3)=some false) (b6:W.subIn K (.ref g0) (.ref g4)=some false) (n0:g0≠g2) (n1:g0≠g3) (n2:g0≠g4) (j0:L2.XN.excInI K g0 gi=true)
  (R0:zA K g2 g1 g2 g3 g0 g4 true false false false) (R1:zA K g3 g1 g2 g3 g0 g4 false true false false) (R2:zA K g0 g1 g2 g3 g0 g4 false false true false) (R3:zA K g4 g1 g2 g3 g0 g4 false false false true)
  (Q0:W.excIn K g2 L2.XN.bmV "ValueError.__new__"=true) (P0:W.keepIn K (.ref g2)=true) (Q1:W.excIn K g3 L2.XN.bmV "ValueError.__new__"=true) (P1:W.keepIn K (.ref g3)=true) (Q2:W.excIn K g4 L2.XN.bmV "ValueError.__new__"=true) (P2:W.keepIn K (.ref g4)=true) (n3:g2≠g3) (n4:g2≠g4) (n5:g3≠g4)
  :
  ∃fd:FuncData,(∀(s:Shared)(v:Value),BindsTo s fd ⟨[v],[]⟩ [("_law_script",v)])/\∀base:Heap,K.In base->base.Ns mainGlobals mg->ah l.prog w K mg base cY 40 fa fd ["_law_script"] (mW K):=by
 have hB:∀x,B.contains x=true->mg x=none:=cv (nO X Gh z0) (cv (nO X Gh z1) (cv (nO X Gh z2) (cv (nO X Gh z3) (cv (nO X Gh z4) (cv (nO X Gh z5) (cv (nO X Gh z6) (cv (nO X Gh z7) (cv (nO X Gh z8) (cv (nO X Gh z9) (cv (nO X Gh z10) (bnil)))))))))));have e:=hfa.symm.trans (DK X Gh a14.a);cases e;have hG:∀x v,G.lookup x=some v->∃u w,mg x=some u/\RelV w u/\∀Hi n H,Rp K Hi n v H w:=re ⟨_,(.str "x"),DK X Gh v0,⟨_,rfl⟩,fun _ _ _=>Rp.str.mpr rfl⟩ (re ⟨_,(.str "."),DK X Gh v1,⟨_,rfl⟩,fun _ _ _=>Rp.str.mpr rfl⟩ (re ⟨_,(.int 8),DK X Gh v2,⟨_,rfl⟩,fun _ _ _=>Rp.int.mpr rfl⟩ (gnil)));have cls0:tN K mg g0 g1 g2 g3 g4 gi _:=⟨⟨j0,⟨_,i1,rfl⟩,h0,⟨e0,e1,e2,e3,e4,e5,e6,by rw[yc0];rfl⟩,h1,h2,h3,h4⟩,⟨DK X Gh y0,by rw[yc0];rfl,yt0⟩,⟨DK X Gh y1,by rw[yc1];rfl,yt1⟩,⟨DK X Gh y2,by rw[yc2];rfl,yt2⟩,⟨DK X Gh y3,by rw[yc3];rfl,yt3⟩,⟨DK X Gh y4,by rw[yc4];rfl,yt4⟩,b0,b1,b2,b3,b4,b5,b6,n0,n1,n2,⟨_,_,_,_,_,_,_,_,_,_,_,_,_,_,rfl,i1,i2,i3⟩⟩;have cls:tM K mg g0 g1 g2 g3 g4 gi _:=⟨cls0,Q0,Q1,Q2,P0,P1,P2,R0.sD,R0.kin cls0 cls0.k1.cl (fun _=>rfl) (fun z=>absurd z n3) (fun z=>absurd z.symm n0) (fun z=>absurd z n4),R1.kin cls0 cls0.k2.cl (fun z=>absurd z.symm n3) (fun _=>rfl) (fun z=>absurd z.symm n1) (fun z=>absurd z n5),R2.kin cls0 cls0.kC.cl (fun z=>absurd z n0) (fun z=>absurd z n1) (fun _=>rfl) (fun z=>absurd z n2),R3.kin cls0 cls0.k3.cl (fun z=>absurd z.symm n4) (fun z=>absurd z.symm n5) (fun z=>absurd z.symm n2) (fun _=>rfl)⟩;have E0:=rJ (k:=0) X Gh a0 N0 1 [] (by walk_at "bd1") (by walk_at "sc") rfl (by kernel_rfl);have E1:=rJ (k:=1) X Gh a1 N1 1 [] (by walk_at "bd1") (by walk_at "sc") rfl (by kernel_rfl);have E2:=rJ (k:=2) X Gh a2 N2 1 [] (by walk_at "bd1") (by walk_at "sc") rfl (by kernel_rfl);have D3:=AM X Gh a3 (show zD "read_board" ["text"] _ by walk_at "bd1");have E3:mS K mg P F G B "read_board" 32 f3 _ ["text"]:=⟨.inl ⟨D3.nm,D3.fn.kp,D3.bd,fun p w b k z=>yE hG hB D3 p w b k (z k (BD k))⟩⟩;have E4:=rJ (k:=4) X Gh a4 N4 2 [] (by walk_at "bd2") (by walk_at "sc") rfl (by kernel_rfl);have E5:=rJ (k:=5) X Gh a5 N5 2 [] (by walk_at "bd2") (by walk_at "sc") rfl (by kernel_rfl);have E6:=rJ (k:=35) X Gh a6 N35 3 [6] (by walk_at "bd3") (by walk_at "sc") rfl (by kernel_rfl);have E7:=rJ (k:=8) X Gh a7 N8 1 [] (by walk_at "bd1") (by walk_at "sc") rfl (by kernel_rfl);have E8:=rJ (k:=9) X Gh a8 N9 2 [] (by walk_at "bd2") (by walk_at "sc") rfl (by kernel_rfl);have E9:=rJ (k:=10) X Gh a9 N10 2 [] (by walk_at "bd2") (by walk_at "sc") rfl (by kernel_rfl);have D10:=AM X Gh a10 (show zD "_law_kinds" ["_law_error"] _ by walk_at "bd1");have E10:mS K mg P F G B "_law_kinds" 36 f10 _ ["_law_error"]:=⟨.inl ⟨D10.nm,D10.fn.kp,D10.bd,tX (nq rfl)⟩⟩;have D11:=AM X Gh a11 (show zD "_law_refused" ["_law_thing"] _ by walk_at "bd1");have E11:mS K mg P F G B "_law_refused" 37 f11 _ ["_law_thing"]:=⟨.inl ⟨D11.nm,D11.fn.kp,D11.bd,yD hG hB cls D3 D10 D11⟩⟩;have E12:=rJ (k:=38) X Gh a12 N38 2 [7] (by walk_at "bd2") (by walk_at "sc") rfl (by kernel_rfl);have D13:=AM X Gh a13 (show zD "_law_errors" ["_law_number"] _ by walk_at "bd1");have E13:mS K mg P F G B "_law_errors" 39 f13 _ ["_law_number"]:=⟨.inl ⟨D13.nm,D13.fn.kp,D13.bd,yC hG hB cls D10 D13⟩⟩;have E14:=rJ (k:=40) X Gh a14 N40 1 [] (by walk_at "bd1") (by walk_at "sc") rfl (by kernel_rfl);have hF:∀x f,F.lookup x=some f->∃a fd ps,mS K mg P F G B x f a fd ps:=bY ⟨_,_,_,E0⟩ (bY ⟨_,_,_,E1⟩ (bY ⟨_,_,_,E2⟩ (bY ⟨_,_,_,E3⟩ (bY ⟨_,_,_,E4⟩ (bY ⟨_,_,_,E5⟩ (bY ⟨_,_,_,E6⟩ (bY ⟨_,_,_,E7⟩ (bY ⟨_,_,_,E8⟩ (bY ⟨_,_,_,E9⟩ (bY ⟨_,_,_,E10⟩ (bY ⟨_,_,_,E11⟩ (bY ⟨_,_,_,E12⟩ (bY ⟨_,_,_,E13⟩ (bY ⟨_,_,_,E14⟩ (fnil)))))))))))))));exact⟨W.fnOf "law" "law" (bC s40) (aZ s40) (aH s40) .none t14 u14 w14 x14 y14 m14,fun s v=>.of_eq rfl,fun base _ _=>xm (yM hG hB hF 40 "law" 40 fa _ _ E14) rM⟩
theorem walk{l:W.OpenLaw}{q:Program}{loose:List Str}{XP:(Str->Option Value)->Heap->Prop}{YP:World->Heap->Prop}{d:DefRec}{K:Params->W.Frag}(hn:l.most=some 63)(hdf:d.params.defaults=[])
  (hY:∀(w:World)(h:Heap),YP w h->(K w.params).In h)
  (F:∀(w:World)(mg:Str->Option Value)(fa:Addr)(h:Heap),(K w.params).In h->h.Ns mainGlobals mg->mg d.name=some (.ref fa) ->
   ∃fd:FuncData,(∀(s:Shared)(u:Value),BindsTo s fd ⟨[u],[]⟩ [("_law_script",u)])/\∀base:Heap,(K w.params).In base->base.Ns mainGlobals mg->ah l.prog w (K w.params) mg base cY 40 fa fd ["_law_script"] (mW (K w.params))) :
  W.WalkO q loose XP YP l.row.toRowW d [] (fun f vs=>PySem.call f vs) :=
 L2.tW (n:=63) (k:=40) (x:="_law_script") (CX:=fun _=>cY) (sp:=fun w=>mW (K w.params)) hn (by decide) hdf ⟨rfl,by decide,by decide⟩ hY F (fun _ _ a ns hl _ hS=>⟨a,ns,rfl,hS,hl,fun _=>rfl⟩) fun _ _ _ _ _ z=>z
end Law
open PySem PySem.W PyProof.Rows
set_option maxRecDepth 100000 in
set_option maxHeartbeats 0 in
theorem PySem.Challenge.cw_unstruck_k05_texts_refused_holds : PySem.Challenge.rw_unstruck_k05_texts_refused.Holds := by
 w_on;o_law;k_head;(case hw=>w_witness2)
 k_fill
 refine Law.walk (l:=PySem.Challenge.rw_unstruck_k05_texts_refused) rfl rfl (fun w h Y=>PySem.W.kIn_of Y) ?F
 case F =>
  intro w mg fa h KX G hmg;refine' Law.yi KX G hmg ?a0 ?a1 ?a2 ?a3 ?a4 ?a5 ?a6 ?a7 ?a8 ?a9 ?a10 ?a11 ?a12 ?a13 ?a14 ?z0 ?z1 ?z2 ?z3 ?z4 ?z5 ?z6 ?z7 ?z8 ?z9 ?z10 ?v0 ?v1 ?v2 ?y0 ?yc0 ?yt0 ?y1 ?yc1 ?yt1 ?y2 ?yc2 ?yt2 ?y3 ?yc3 ?yt3 ?y4 ?yc4 ?yt4 ?j1 ?i1 ?i2 ?i3 ?h0 ?h1 ?h2 ?h3 ?h4 ?e0 ?e1 ?e2 ?e3 ?e4 ?e5 ?e6 ?b0 ?b1 ?b2 ?b3 ?b4 ?b5 ?b6 ?n0 ?n1 ?n2 ?j0 ?R0 ?R1 ?R2 ?R3 ?Q0 ?P0 ?Q1 ?P1 ?Q2 ?P2 ?n3 ?n4 ?n5
  (case a0|a1|a2|a3|a4|a5|a6|a7|a8|a9|a10|a11|a12|a13|a14=>exact⟨by k_is,by k_is,by k_is,by k_is⟩)
  (case z0|z1|z2|z3|z4|z5|z6|z7|z8|z9|z10|v0|v1|v2|y0|yc0|yt0|y1|yc1|yt1=>k_is)
  (case y2|yc2|yt2|y3|yc3|yt3|y4|yc4|yt4|j1|i1|i2|i3|h0|h1|h2|h3|h4|e0|e1=>k_is)
  (case e2|e3|e4|e5|e6|b0|b1|b2|b3|b4|b5|b6=>k_is)
  (case n0|n1|n2|n3|n4|n5=>decide)
  (case j0=>kernel_rfl)
  (case R0|R1|R2|R3=>exact⟨by k_is,by k_is,by k_is,by k_is,by k_is,by k_is,by k_is,by k_is,by k_is,by k_is,by k_is⟩)
  (case Q0|Q1|Q2=>first|k_exc|kernel_rfl)
  (case P0|P1|P2=>k_is)
#print axioms PySem.Challenge.cw_unstruck_k05_texts_refused_holds
