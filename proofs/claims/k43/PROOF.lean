import PyProof.Rows.All
import Wide.All
import OpenK.AllK
import Wide.FinOn
import Lean
import PyProof.EqAt
import PyProof.EqKinds
import PyProof.TupleCall
import PyProof.StrLawsTight
import PyProof.StrLawsChain
import PyProof.StrLawsOcc
import PyProof.Cells
import OpenK.KLine
import PyProof.SumAny
import PyProof.Rows.SortShell
import PyProof.DictItems
import PyProof.DictWalks
import KE.KRevIter
import PyProof.JoinWalk
import PyProof.CollectIter
import PyProof.StrLawsIn
import PyProof.Rows.SetFrom
import PyProof.CollectWalk
import PyProof.Rows.SortWalk
import KE.KSortTup
import KE.KxPercent
import PyProof.TupleOfGen
import KE.KDictList
import PyProof.P3In
import PyProof.NeData
import PyProof.FactsAll.tuple_2
import KE.KTryMore
import PyProof.ExcArgsOwn
import PyProof.ExcAttrAll.ValueError
import PyProof.ExcBaseAll.ValueError
import PySem.Challenge.RW_unstruck_k43_whole_no_placing_has_more
set_option genSizeOf false
set_option genSizeOfSpec false
set_option Elab.async false
set_option linter.all false
set_option maxRecDepth 100000
def Dp:=@List.length_map
def Dq:=@List.mem_cons_of_mem
def Dr:=@PySem.Heap.get?_push_of_some
def Ds:=@List.mem_cons_self
def Dt:=@List.getD_eq_getElem?_getD
def Du:=@Bool.and_eq_true
def Dv:=@List.mem_map
def Dw:=@List.getElem?_eq_getElem
def Dx:=@Nat.le_refl
def Dy:=@Bool.false_ne_true
def Dz:=@if_neg
def D1:=@List.getElem?_eq_some_iff
def D2:=@List.map_cons
def D3:=@if_pos
def D6:=@PySem.wpAny_bind
def D7:=@List.getElem?_map
def D8:=@List.mem_cons
def D9:=@List.size_toArray
def EA:=@PySem.Heap.lt_size
def EB:=@PySem.Heap.get?_push_size
def EC:=@List.length_append
def ED:=@List.length_cons
def EE:=@List.mem_of_getElem?
def EF:=@List.map_append
def EG:=@List.all_eq_true
def EH:=@List.mem_append_left
def EI:=@Nat.ne_of_lt
def EJ:=@Option.some.inj
def EK:=@List.contains_iff_mem
def EL:=@List.mem_append
def EM:=@List.mem_append_right
def EN:=@LawfulBEq.eq_of_beq
def EO:=@List.nodup_cons
def EQ:=@Array.length_toList
def ER:=@PySem.mem_of_lookup
def ES:=@PySem.wpAny_pure
def ET:=@Nat.lt_of_lt_of_le
def EU:=@List.map_map
def EV:=@decide_eq_false
def EW:=@List.mem_filter
def EX:=@decide_eq_true
def EY:=@Nat.zero_le
def EZ:=@List.length_range
def Ea:=@List.lookup_cons
def Eb:=@List.mem_range
def Ec:=@List.getElem?_set_ne
def Ed:=@List.find?_cons
def Ee:=@List.mem_singleton
def Ef:=@List.getElem?_eq_none
def Eg:=@of_decide_eq_true
def Eh:=@Nat.le_trans
def Ei:=@Option.bind_some
def Ej:=@PySem.sizeLine_eq
def Ek:=@congrArg
def El:=@PyProof.Rows.callWith_type1
def Em:=@Array.getD_eq_getD_getElem?
def Eo:=@List.getElem?_append_left
def Ep:=@List.map_congr_left
def Er:=@List.nodup_append
def Es:=@List.take_length
def Et:=@List.getElem?_cons_succ
def Eu:=@List.getElem?_set_self
def Ev:=@PySem.wpAny_loadPart'
def Ew:=@Nat.lt_succ_of_lt
def Ex:=@List.length_set
def Ey:=@List.append_nil
def Ez:=@List.getElem?_range
def FA:=@PySem.wpAny_truthy_bool
def FB:=@PySem.wpAny_mono
def FE:=@List.not_mem_nil
def FF:=@List.lookup_append
def FG:=@Option.map_some
def FH:=@Bool.eq_iff_iff
def FI:=@decide_eq_true_eq
def FJ:=@List.take_add_one
def FK:=@List.map_nil
def FL:=@Nat.lt_irrefl
def FM:=@PySem.PassesOwn.never
def FN:=@List.length_take
def FO:=@List.any_eq_true
def FP:=@decide_false
def FQ:=@Nat.lt_trans
def FR:=@Nat.le_of_lt
def FS:=@List.length_singleton
def FT:=@List.length_filter_le
def FU:=@Bool.eq_false_iff
def FV:=@PySem.wpAny_passesOwn
def FW:=@List.getElem?_append_right
def FX:=@List.getElem_map
def FY:=@List.drop_eq_getElem_cons
def FZ:=@List.filter_sublist
def Fa:=@List.filterMap_cons
def Fb:=@List.any_cons
def Fc:=@List.all_cons
def Fd:=@Ne.symm
def Fe:=@List.zip_cons_cons
def Ff:=@List.contains_cons
def Fg:=@PySem.F.plainAttrs_dict
def Fh:=@Int.le_refl
def Fi:=@Nat.ne_of_gt
def Fj:=@List.reverse_cons
def Fk:=@List.pairwise_map
def Fm:=@Int.toNat_natCast
def Fn:=@PyProof.Rows.mirror_perm
def Fo:=@Bool.beq_eq_decide_eq
def Fp:=@Array.getElem?_toList
def Fq:=@List.getElem_mem
def Fs:=@List.filter_cons
def Ft:=@PySem.Calls.callWith_builtin
def Fu:=@List.mem_iff_getElem
def Fv:=@List.length_nil
def Fw:=@Bool.or_eq_true
def Fx:=@Array.Perm.refl
def Fy:=@List.length_zipWith
def Fz:=@List.length_reverse
def F1:=@PySem.wpAny_call_entry
def F2:=@PySem.boot_len
def F3:=@Nat.lt_of_le_of_lt
def F4:=@Int.emod_lt_of_pos
def F5:=@Bool.false_and
def F6:=@List.getElem?_set
def F7:=@List.ext_getElem?
def F8:=@PySem.F.slot_dict_values
def F9:=@List.sum_cons
def GA:=@PySem.wpAny_pyIter_tuple
def GB:=@PySem.tupleKind_room_in1
def GC:=@PySem.wpAny_pyIter_enum
namespace L2
open PySem PySem.Spec PyProof.Rows
noncomputable abbrev ac:=Sum Int Str
noncomputable def jd:ac->Value->Bool
 | .inl k,v=>Value.isInt k v
 | .inr x,v=>Value.isStrOf x v
noncomputable def keyH(w:World):ac->Int
 | .inl k=>hashInt k
 | .inr x=>hashStr w x
theorem ak:∀{k:ac}{v:Value},jd k v=true->(∃i t,k=Sum.inl i/\v=Value.int i t)\/(∃x t,k=Sum.inr x/\v=Value.str x t)
 | .inl i,v,h=>by
  obtain⟨t,e⟩:=Value.isInt_shape (k:=i) (v:=v) h;exact .inl ⟨i,t,rfl,e⟩
 | .inr x,v,h=>by
  obtain⟨t,e⟩:=Value.isStrOf_shape (x:=x) (v:=v) h;exact .inr ⟨x,t,rfl,e⟩
theorem qr(i:Int)(t:Tok):jd (.inl i) (.int i t)=true:=by simp[jd,Value.isInt]
theorem qp(x:Str)(t:Tok):jd (.inr x) (.str x t)=true:=by simp[jd,Value.isStrOf]
theorem Ad(a b:Int):decide ((Sum.inl a:ac)=Sum.inl b)=(a==b):=by
 by_cases e:a=b
 ·subst e;simp
 ·have h:¬(Sum.inl a:ac)=Sum.inl b:=fun q=>e (Sum.inl.inj q)
  rw[EV h];exact(beq_eq_false_iff_ne.mpr e).symm
theorem AZ(a b:Str):decide ((Sum.inr a:ac)=Sum.inr b)=decide (a=b):=by
 by_cases e:a=b
 ·subst e;simp
 ·have h:¬(Sum.inr a:ac)=Sum.inr b:=fun q=>e (Sum.inr.inj q)
  rw[EV h,EV e]
theorem Ac(a:Int)(b:Str):decide ((Sum.inl a:ac)=Sum.inr b)=false:=EV (fun q=>nomatch q)
theorem Ab(a:Str)(b:Int):decide ((Sum.inr a:ac)=Sum.inl b)=false:=EV (fun q=>nomatch q)
noncomputable def aU(prog:Program)(w:World):PySem.KeyKind prog w ac where
 is:=jd
 hash:=keyH w
 inj:=fun v a b ha hb=>by
  rcases ak ha with⟨i,t,rfl,rfl⟩|⟨x,t,rfl,rfl⟩
  ·rcases ak hb with⟨j,u,rfl,e⟩|⟨y,u,rfl,e⟩
   ·injection e with e1 _;rw[e1]
   ·exact nomatch e
  ·rcases ak hb with⟨j,u,rfl,e⟩|⟨y,u,rfl,e⟩
   ·exact nomatch e
   ·injection e with e1 _;rw[e1]
 byValue:=fun k v h=>by
  rcases ak h with⟨i,t,rfl,rfl⟩|⟨x,t,rfl,rfl⟩<;>rfl
 pyHash:=fun hv h=>by
  rcases ak hv with⟨i,t,rfl,rfl⟩|⟨x,t,rfl,rfl⟩
  ·exact wpAny_pyHash_int h
  ·exact wpAny_pyHash_str h
 eqBool:=fun hu hv h=>by
  rcases ak hu with⟨i,t,rfl,rfl⟩|⟨x,t,rfl,rfl⟩
  ·rcases ak hv with⟨j,u,rfl,rfl⟩|⟨y,u,rfl,rfl⟩
   ·rw[Ad]at h;exact wpAny_eqBool_int h
   ·rw[Ac]at h;exact SeqAt.EqAt.int_str i t y u _ _ _ _ h
  ·rcases ak hv with⟨j,u,rfl,rfl⟩|⟨y,u,rfl,rfl⟩
   ·rw[Ab]at h;exact SeqAt.EqAt.str_int x t j u _ _ _ _ h
   ·rw[AZ]at h;exact wpAny_eqBool_str h
 «strs»:=fun k x t v h=>by
  rcases ak h with⟨i,u,rfl,e⟩|⟨y,u,rfl,e⟩
  ·exact nomatch e
  ·injection e with e1 _
   subst e1;cases v<;>rfl
theorem mN(prog:Program)(w:World)(i:Int)(t:Tok):(aU prog w).is (.inl i) (.int i t)=true:=qr i t
theorem mM(prog:Program)(w:World)(x:Str)(t:Tok):(aU prog w).is (.inr x) (.str x t)=true:=qp x t
inductive V where
 | non|bl (b:Bool)|int (i:Int)|str (x:Str)|byt (b:Array UInt8)|flt (b:UInt64)|ref (a:Addr)|ty (n:String)
 deriving DecidableEq
noncomputable def RelV:V->Value->Prop
 | .non,u=>u=Value.none
 | .bl b,u=>u=Value.bool b
 | .int i,u=>∃t,u=Value.int i t
 | .str x,u=>∃t,u=Value.str x t
 | .byt b,u=>∃t,u=Value.bytes b t
 | .flt b,u=>∃t,u=Value.float b t
 | .ref a,u=>u=Value.ref a
 | .ty n,u=>u=Value.type n
noncomputable abbrev aQ:List V->List Value->Prop:=Paired RelV
theorem aQ.length{xs:List V}{us:List Value}(r:aQ xs us):xs.length=us.length:=Paired.length r
theorem aQ.get:∀{xs:List V}{us:List Value}{i:Nat}{x:V},aQ xs us->xs[i]? =some x->∃u,us[i]? =some u/\RelV x u
 | _,_,_,_,.nil,e=>by simp at e
 | _,_,0,_,.cons r _,e=>by simp at e;subst e;exact⟨_,rfl,r⟩
 | _,_,i+1,x,.cons _ t,e=>by
  obtain⟨u,h1,h2⟩:=aQ.get (i:=i) (x:=x) t (by simpa using e);exact⟨u,by simpa using h1,h2⟩
theorem aQ.set{x:V}{u:Value}(r:RelV x u):∀{xs:List V}{us:List Value}(i:Nat),aQ xs us->aQ (xs.set i x) (us.set i u)
 | _,_,_,.nil=>.nil
 | _,_,0,.cons _ t=>.cons r t
 | _,_,i+1,.cons q t=>.cons q (aQ.set r i t)
theorem aQ.append{xs ys:List V}{us ws:List Value}(h:aQ xs us)(k:aQ ys ws):aQ (xs++ys) (us++ws):=by
 induction h with
 | nil=>exact k
 | cons r t ih=>exact .cons r ih
theorem aQ.take:∀{xs:List V}{us:List Value}(n:Nat),aQ xs us->aQ (xs.take n) (us.take n)
 | _,_,0,_=>.nil
 | _,_,_+1,.nil=>.nil
 | _,_,n+1,.cons r t=>.cons r (aQ.take n t)
theorem aQ.drop:∀{xs:List V}{us:List Value}(n:Nat),aQ xs us->aQ (xs.drop n) (us.drop n)
 | _,_,0,r=>r
 | _,_,_+1,.nil=>.nil
 | _,_,n+1,.cons _ t=>aQ.drop n t
noncomputable def gk:Option V->Option Value->Prop
 | some v,some u=>RelV v u
 | none,none=>True
 | _,_=>False
noncomputable def KV{κ:Type}:List (κ×V)->List (κ×Value)->Prop:=Paired fun(p:κ×V)(q:κ×Value)=>p.1=q.1/\RelV p.2 q.2
noncomputable def kV:ac->V
 | .inl i=>.int i
 | .inr x=>.str x
inductive HO where
 | lst (xs:List V)
 | tup (xs:List V)
 | dK (kvs:List (ac×V))|dT (kvs:List (List ac×V))
 | set (S:Int->Bool) (n:Nat)
 | ins (C dx:Addr) (fs:List (Str×V))
 | own (x:Addr)
 | xd (fs:List (Str×V))
 | met (f x:Addr)
 | rng (lo hi:Int)
 | frz (o:Obj) (u:HO)
 | tbl (ps:Array Value)
 | ext (φ:Heap->Prop)
noncomputable abbrev Hp:=Addr->Option HO
noncomputable def upd(H:Hp)(a:Addr)(o:HO):Hp:=fun b=>if b=a then some o else H b
theorem aD{H:Hp}{a:Addr}{o:HO}:upd H a o a=some o:=by unfold upd;rw[D3 rfl]
theorem aB{H:Hp}{a b:Addr}{o:HO}(h:b≠a):upd H a o b=H b:=by unfold upd;rw[Dz h]
theorem vq{H:Hp}{a:Addr}{o u:HO}:upd (upd H a o) a u=upd H a u:=by
 funext b;unfold upd;split<;>rfl
theorem Cv{H:Hp}{a b:Addr}{o u:HO}(h:H a=some o)(h' :H b=some u)(d:o≠u):a≠b:=by
 intro e;subst e;rw[h]at h';exact d (EJ h')
theorem aG{H:Hp}{a b:Addr}{o:HO}(h:H a=some o)(h' :H b=none):a≠b:=by
 intro e;subst e;rw[h]at h';cases h'
noncomputable def gF(h:Heap)(a:Addr)(its:Array Value):Prop:=∃o,h.get? a=some o/\o.cls=.type "tuple"/\∃n,o.data=.seq its n/\o.dict=none
theorem gF.tup{h:Heap}{a:Addr}{its:Array Value}(x:gF h a its):IsTup h a its:=let⟨o,e,c,n,d,_⟩:=x;⟨o,e,c,n,d⟩
theorem gF.new(h:Heap)(its:Array Value):gF (h.push {cls:=.type "tuple",data:=.seq its}) h.objs.size its:=⟨_,EB _ rfl,rfl,_,rfl,rfl⟩
section
variable(P:Program)(w:World)
noncomputable def ar(H:Hp)(h:Heap)(a:Addr):HO->Prop
 | .lst xs=>xs.length<=sizeLine/\∃(its:List Value)(n:Nat),aQ xs its/\h.get? a=some {cls:=.type "list",data:=.seq its.toArray n}
 | .tup xs=>xs.length<=sizeLine/\∃its:List Value,aQ xs its/\gF h a its.toArray
 | .dK kvs=>kvs.length<=sizeLine/\(a==sysModules)=false/\∃vs,KV kvs vs/\h.DictOf (aU P w) a vs
 | .dT kvs=>kvs.length<=sizeLine/\(a==sysModules)=false/\∃xs:List (List ac×Addr×Value),
   Paired (fun(p:List ac×V) (q:List ac×Addr×Value)=>p.1=q.1/\H q.2.1=some (.tup (p.1.map kV))/\RelV p.2 q.2.2) kvs xs /\
   ∃o es ep,h.get? a=some o/\o.ExactDict/\o.data=.dict es ep/\es.toList=xs.map (entryOfKey (tupleKind (aU P w)))/\(xs.map (·.1)).Nodup
 | .set S n=>h.SetOf (intKind P w) a S n
 | .ins C dx fs=>H dx=some (.own a)/\fs.length<=1000/\dx≠a/\h.get? a=some (W.instObj C dx) /\
   ∃mA,h.Ns1 dx mA/\(∀f,gk (fs.lookup f) (mA f))/\PySem.Within mA (fs.map (·.1))
 | .own _=>∃o,h.get? a=some o
 | .xd fs=>∃mA,h.Ns1 a mA/\∀f,gk (fs.lookup f) (mA f)
 | .rng lo hi=>∃t u v,h.get? a=some {cls:=.type "range",data:=.fields #[.int lo t,.int hi u,.int 1 v]}
 | .frz o u=>h.get? a=some o/\ar H h a u
 | .tbl ps=>h.get? a=some {cls:=.none,data:=.fields ps}
 | .met f x=>h.get? a=some (W.methodObj (.ref f) (.ref x))
 | .ext φ=>φ h/\(∃o,h.get? a=some o)/\∀h1 h2:Heap,φ h1->(∀o,h1.get? a=some o->h2.get? a=some o)->φ h2
noncomputable def dz(H:Hp)(h:Heap):Prop:=∀a o,H a=some o->ar P w H h a o
end
section
variable{P:Program}{w:World}{H H' :Hp}{h h' :Heap}{a:Addr}{o:HO}
theorem ar.lt(x:ar P w H h a o):a<h.objs.size:=by
 cases o with
 | lst xs=>obtain⟨_,_,_,_,e⟩:=x;exact EA e
 | tup xs=>obtain⟨_,_,_,p⟩:=x;exact p.tup.lt
 | dK kvs=>obtain⟨_,_,_,_,o,_,_,e,_⟩:=x;exact EA e
 | dT kvs=>obtain⟨_,_,_,_,o,_,_,e,_⟩:=x;exact EA e
 | set S n=>obtain⟨o,_,_,_,e,_⟩:=x;exact EA e
 | ins C dx fs=>obtain⟨_,_,_,e,_⟩:=x;exact EA e
 | own y=>obtain⟨_,e⟩:=x;exact EA e
 | xd fs=>obtain⟨_,⟨_,_,_,e,_⟩,_⟩:=x;exact EA e
 | rng lo hi=>obtain⟨_,_,_,e⟩:=x;exact EA e
 | frz ob u=>obtain⟨e,_⟩:=x;exact EA e
 | tbl ps=>exact EA (show h.get? a=some _ from x)
 | met f y=>exact EA (show h.get? a=some _ from x)
 | ext φ=>obtain⟨_,⟨_,e⟩,_⟩:=x;exact EA e
theorem Paired.mapP{α β:Type}{F G:α->β->Prop}{l₁:List α}{l₂:List β}(h:Paired F l₁ l₂)(f:∀a b,F a b->G a b):Paired G l₁ l₂:=by
 induction h with
 | nil=>exact .nil
 | cons r t ih=>exact .cons (f _ _ r) ih
theorem ar.stay(x:ar P w H h a o)(k:∀b u,(b=a\/H b=some (.own a))->h.get? b=some u->h'.get? b=some u)
  (ho:∀b,H b=some (.own a)->H' b=some (.own a)) (ht:∀b xs,H b=some (.tup xs)->H' b=some (.tup xs)):ar P w H' h' a o:=by
 induction o with
 | lst xs=>obtain⟨z,its,n,r,e⟩:=x;exact⟨z,its,n,r,k _ _ (.inl rfl) e⟩
 | tup xs=>obtain⟨z,its,r,ob,e,c⟩:=x;exact⟨z,its,r,ob,k _ _ (.inl rfl) e,c⟩
 | dK kvs=>obtain⟨z,y,vs,r,ob,es,ep,e,c⟩:=x;exact⟨z,y,vs,r,ob,es,ep,k _ _ (.inl rfl) e,c⟩
 | dT kvs =>
  obtain⟨z,y,xs,r,ob,es,ep,e,c⟩:=x;exact⟨z,y,xs,Paired.mapP r fun p q z=>⟨z.1,ht _ _ z.2.1,z.2.2⟩,ob,es,ep,k _ _ (.inl rfl) e,c⟩
 | set S n=>obtain⟨ob,es,ep,t,e,c⟩:=x;exact⟨ob,es,ep,t,k _ _ (.inl rfl) e,c⟩
 | ins C dx fs =>
  obtain⟨d,z,ne,e,mA,⟨od,es,ep,e2,c⟩,r⟩:=x;exact⟨ho _ d,z,ne,k _ _ (.inl rfl) e,mA,⟨od,es,ep,k _ _ (.inr d) e2,c⟩,r⟩
 | own y=>obtain⟨ob,e⟩:=x;exact⟨ob,k _ _ (.inl rfl) e⟩
 | xd fs=>obtain⟨mA,⟨od,es,ep,e,c⟩,r⟩:=x;exact⟨mA,⟨od,es,ep,k _ _ (.inl rfl) e,c⟩,r⟩
 | rng lo hi=>obtain⟨t,u,v,e⟩:=x;exact⟨t,u,v,k _ _ (.inl rfl) e⟩
 | frz ob u ih=>obtain⟨e,q⟩:=x;exact⟨k _ _ (.inl rfl) e,ih q⟩
 | tbl ps =>
  have e:h.get? a=some {cls:=.none,data:=.fields ps}:=x;show h'.get? a=some {cls:=.none,data:=.fields ps};exact k a _ (.inl rfl) e
 | met f y =>
  have e:h.get? a=some (W.methodObj (.ref f) (.ref y)):=x;show h'.get? a=some (W.methodObj (.ref f) (.ref y));exact k a _ (.inl rfl) e
 | ext φ=>obtain⟨p,⟨o,e⟩,st⟩:=x;exact⟨st _ _ p fun o q=>k _ _ (.inl rfl) q,⟨o,k _ _ (.inl rfl) e⟩,st⟩
theorem dz.lt(x:dz P w H h)(e:H a=some o):a<h.objs.size:=(x a o e).lt
theorem dz.fresh(x:dz P w H h)(e:h.objs.size<=a):H a=none:=by
 cases q:H a with
 | none=>rfl
 | some u=>exact absurd (ET (x.lt q) e) (FL _)
theorem dz.kept(x:dz P w H h)(k:∀b u,h.get? b=some u->h'.get? b=some u):dz P w H h' :=fun a o e =>
 (x a o e).stay (fun b u _ q=>k b u q) (fun _ q=>q) fun _ _ q=>q
theorem dz.laid(x:dz P w H h)(k:∀b u,h.get? b=some u->h'.get? b=some u)(hp:h.objs.size<=a)(new:ar P w (upd H a o) h' a o):dz P w (upd H a o) h' :=fun b u e=>by
 have hn:=x.fresh hp
 by_cases hb:b=a
 ·subst hb;rw[aD]at e;cases e;exact new
 ·rw[aB hb]at e
  exact(x b u e).stay (fun c v _ q=>k c v q) (fun c q=>by rw[aB (aG q hn)];exact q) fun c xs q=>by rw[aB (aG q hn)];exact q
end
noncomputable def Rd(H:Hp)(a:Addr)(u:HO):Prop:=H a=some u\/∃o,H a=some (.frz o u)
theorem Rd.ok{P:Program}{w:World}{H:Hp}{h:Heap}{a:Addr}{u:HO}(r:Rd H a u)(x:dz P w H h):ar P w H h a u:=by
 rcases r with r|⟨o,r⟩
 ·exact x a u r
 ·obtain⟨_,q⟩:=x a _ r
  exact q
noncomputable def Dg:Option HO->Prop
 | some (.lst _)=>True
 | some (.dK _)=>True
 | some (.dT _)=>True
 | some (.set _ _)=>True
 | some (.ins _ _ _)=>True
 | some (.ext _)=>True
 | _=>False
section
variable{P:Program}{w:World}{H:Hp}{h h' :Heap}{x e:Addr}{o' :HO}
theorem dz.write(ok:dz P w H h)(mu:Dg (H x))(he:e=x\/H e=some (.own x))(k:∀b u,b≠e->h.get? b=some u->h'.get? b=some u)(heo:∃u,h'.get? e=some u)
  (new:ar P w (upd H x o') h' x o'):dz P w (upd H x o') h' :=fun b u q=>by
 have nown:∀c y,H c=some (.own y)->c≠x:=fun c y r z=>by subst z;rw[r]at mu;exact mu
 have ntup:∀c xs,H c=some (.tup xs)->c≠x:=fun c xs r z=>by subst z;rw[r]at mu;exact mu
 by_cases hb:b=x
 ·subst hb;rw[aD]at q;cases q;exact new
 ·rw[aB hb]at q
  by_cases hbe:b=e
  ·have q' :H b=some (.own x):=by
    rcases he with z|z
    ·exact absurd (hbe.trans z) hb
    ·rw[hbe];exact z
   rw[q]at q';cases q';obtain⟨v,hv⟩:=heo;exact⟨v,by rw[hbe];exact hv⟩
  ·refine(ok b u q).stay (fun c v hc r=>k c v ?_ r) (fun c r=>by rw[aB (nown c b r)];exact r) fun c xs r=>by rw[aB (ntup c xs r)];exact r
   rcases hc with rfl|hc
   ·exact hbe
   ·rintro rfl
    rcases he with z|z
    ·exact nown c b hc z
    ·rw[hc]at z;cases z;exact hb rfl
end
structure Un(fs ex:List Addr)(H H' :Hp)(h h' :Heap):Prop where
 keep:∀b o,h.get? b=some o->H b=none->b∉fs->b∉ex->h'.get? b=some o
 slot:∀b o,h.get? b=some o->H b=none->b∈fs->b∉ex->∃sl,h'.get? b=some {o with slots:=sl}
 free:∀b o,h.get? b=some o->H b=none->b∉ex->H' b=none
 there:∀b o,h.get? b=some o->b∉ex->∃o',h'.get? b=some o'
 tups:∀b xs,H b=some (.tup xs)->H' b=some (.tup xs)
 frzs:∀b o u,H b=some (.frz o u)->H' b=some (.frz o u)
 tbls:∀b ps,H b=some (.tbl ps)->∃more,H' b=some (.tbl (ps++more))
section
variable{fs fs' ex ex' :List Addr}{H H1 H2:Hp}{h h1 h2 h' :Heap}{a x e:Addr}{o:HO}
theorem Un.any(u:Un fs ex H H1 h h1){b:Addr}{ob:Obj}(q:h.get? b=some ob)(n:H b=none)(hx:b∉ex):∃sl,h1.get? b=some {ob with slots:=sl}:=by
 by_cases hb:b∈fs
 ·exact u.slot b ob q n hb hx
 ·exact⟨ob.slots,u.keep b ob q n hb hx⟩
theorem Un.kept(k:∀b u,h.get? b=some u->h'.get? b=some u):Un fs ex H H h h' :=
 ⟨fun b ob q _ _ _=>k b ob q,fun b ob q _ _ _=>⟨ob.slots,k b ob q⟩,fun _ _ _ n _=>n,fun b ob q _=>⟨ob,k b ob q⟩,fun _ _ q=>q,fun _ _ _ q=>q,fun _ ps q=>⟨#[],by rw[q];simp⟩⟩
theorem Un.refl:Un fs ex H H h h:=Un.kept fun _ _ q=>q
theorem Un.laid(k:∀b u,h.get? b=some u->h'.get? b=some u)(hp:h.objs.size<=a)(hn:H a=none):Un fs ex H (upd H a o) h h' where
 keep:=fun b u q _ _ _=>k b u q
 slot:=fun b u q _ _ _=>⟨u.slots,k b u q⟩
 free:=fun b u q n _=>by rw[aB (EI (ET (EA q) hp))];exact n
 there:=fun b u q _=>⟨u,k b u q⟩
 tups:=fun b xs q=>by rw[aB (aG q hn)];exact q
 frzs:=fun b u xs q=>by rw[aB (aG q hn)];exact q
 tbls:=fun b ps q=>⟨#[],by rw[aB (aG q hn),q];simp⟩
theorem Un.write(mu:Dg (H x))(he:e=x\/H e=some (.own x))(k:∀b u,b≠e->h.get? b=some u->h'.get? b=some u)(heo:∃u,h'.get? e=some u):Un fs ex H (upd H x o) h h' :=by
 have hx:∀b,H b=none->b≠x:=fun b n z=>by subst z;rw[n]at mu;exact mu
 have hb:∀b,H b=none->b≠e:=fun b n z=>by
  subst z
  rcases he with r|r
  ·exact hx b n r
  ·rw[n]at r;cases r
 have hm:∀b u,H b=some u->¬Dg (some u)->b≠x:=fun b u q nm z=>by subst z;rw[q]at mu;exact nm mu
 refine⟨fun b u q n _ _=>k b u (hb b n) q,fun b u q n _ _=>⟨u.slots,k b u (hb b n) q⟩,fun b u q n _=>by rw[aB (hx b n)];exact n,fun b u q _=> ?_,
  fun b xs q=>by rw[aB (hm b _ q fun z=>z)];exact q,fun b u xs q=>by rw[aB (hm b _ q fun z=>z)];exact q,fun b ps q=>⟨#[],by rw[aB (hm b _ q fun z=>z),q];simp⟩⟩
 by_cases hbe:b=e
 ·subst hbe;exact heo
 ·exact⟨u,k b u hbe q⟩
end
noncomputable def trk(h:Heap)(H:Hp):List Addr:=(List.range h.objs.size).filter fun a=>(H a).isSome
noncomputable def kZ(h:Heap)(H:Hp):Heap:=W.hideAll h (trk h H)
theorem qu(h:Heap)(H:Hp):(kZ h H).objs.size=h.objs.size:=W.hideAll_size _ _
theorem ue{h:Heap}{H:Hp}{b:Addr}{o:Obj}(e:h.get? b=some o)(n:H b=none):(kZ h H).get? b=some o :=
 W.hideAll_get _ e fun hm=>by
  have q:(H b).isSome=true:=(EW.mp hm).2;rw[n]at q;simp at q
theorem wx{h:Heap}{H:Hp}{b:Addr}{o:Obj}(e:(kZ h H).get? b=some o):h.get? b=some o/\H b=none:=by
 have e' :h.get? b=some o:=W.of_hideAll (trk h H) e;refine⟨e',?_⟩;cases q:H b with
 | none=>rfl
 | some x =>
  have hm:b∈trk h H:=EW.mpr ⟨Eb.mpr (EA e'),by simp[q]⟩;have z:(kZ h H).get? b=none:=W.hideAll_none (trk h H) hm;rw[z]at e;cases e
noncomputable def yL(g h:Heap)(L:Addr):List (Addr×Obj):=(List.range h.objs.size).filterMap fun a=>if a=L\/(g.get? a).isSome=true then none else(h.get? a).map fun o=>(a,o)
noncomputable def aN(g h:Heap)(L d:Addr):List (Addr×Obj):=(yL g h L).filter fun p=>decide (p.1≠d)
structure Mod(K:W.Frag)(mg:Str->Option Value)(base:Heap):Prop where
 kin:K.In base
 glob:base.Ns mainGlobals mg
 blt:∃mb,base.Ns builtinsNs mb/\∀x:Str,x≠"__name__"->mb x=bootBuiltins x
 nolimit:base.NoLimit
structure Cx where
 prog:Program
 w:World
 K:W.Frag
 mg:Str->Option Value
 base:Heap
 A:Around
 N:List Str
 s₀:Shared
 H₀:Hp
 env:Env
 outer:List Env
 stack:List Env
 ex:List Addr
 fn:Str->Bool
 calm:Bool
 pn:List (Addr×Obj)
 xe:Value->Shared->Prop
noncomputable def oM(l:List Env):List Addr:=l.filterMap (·.frame)
noncomputable abbrev Cx.fs(X:Cx):List Addr:=oM X.outer
noncomputable def Bv(sc:Scope)(x:Str):Prop:=sc.names.lookup x=some .local\/sc.names.lookup x=some .cell\/sc.names.lookup x=some .free
noncomputable def Loc(sc:Scope)(x:Str):Prop:=sc.names.lookup x=some .local\/sc.names.lookup x=some .cell
noncomputable def Look(env:Env)(h:Heap)(m:Str->Option Value)(x:Str)(u:Value):Prop :=
 (env.kindOf x=some .local/\m x=some u)\/((env.kindOf x=some .cell\/env.kindOf x=some .free)/\∃c,env.cells.lookup x=some c/\h.IsCell c (some u))
structure Cx.Ok(X:Cx):Prop where
 mod:Mod X.K X.mg X.base
 kind:X.env.scope.kind=.function
 glob:X.env.globals=mainGlobals
 blt:X.env.builtins=builtinsNs
 above:X.s₀.heap.objs.size<=X.env.locals
 inj:∀x y c,X.env.cells.lookup x=some c->X.env.cells.lookup y=some c->x=y
 has:∀x,(X.env.kindOf x=some .cell\/X.env.kindOf x=some .free)->∃c,X.env.cells.lookup x=some c
 cab:∀x c,X.fn x=true->X.env.cells.lookup x=some c->X.s₀.heap.objs.size<=c
 hd:X.calm=true->X.A.handled=none
 frames:X.A.frames=some X.stack
 stk:X.stack=X.outer\/(X.stack=X.env::X.outer/\X.env.frame=some X.env.locals)
 exf:∀b∈X.ex,b≠X.env.locals/\∀x c,X.env.cells.lookup x=some c->c≠b
 bs:∀b o,X.base.get? b=some o->X.s₀.heap.get? b=some o/\X.H₀ b=none
 bsz:X.base.objs.size<=X.s₀.heap.objs.size
 noex:∀b o,X.base.get? b=some o->b∉X.ex
 exfs:∀b∈X.ex,b∉X.fs
 funs:X.s₀.heap.FunFrames X.base X.outer
 frf:∀b∈X.fs,X.H₀ b=none
structure Inv(X:Cx)(pins:List (Addr×Obj))(σ:List (Option V))(H:Hp)(s:Shared):Prop where
 ok:X.Ok
 os:s.os=X.s₀.os
 bare:AllBare s.gens
 base:Un X.fs X.ex X.H₀ H X.s₀.heap s.heap
 loc:∃m,s.heap.Ns X.env.locals m/\∀(i:Nat)(x:Str)(v:V),X.N[i]? =some x->σ[i]? =some (some v)->Bv X.env.scope x->∃u,RelV v u/\Look X.env s.heap m x u
 cell:∀x c,X.env.cells.lookup x=some c->∃v,s.heap.IsCell c v
 free:H X.env.locals=none
 freeC:∀x c,X.env.cells.lookup x=some c->H c=none
 pin:∀p∈X.pn++pins,s.heap.get? p.1=some p.2/\H p.1=none/\p.1≠X.env.locals/\p.1∉X.fs/\∀v,p.2.data≠.cell v
 hok:dz X.prog X.w H s.heap
 len:σ.length=X.N.length
section
variable{X:Cx}{pins:List (Addr×Obj)}{σ:List (Option V)}{H H' :Hp}{s:Shared}{h' :Heap}
theorem Cx.Ok.nofr(ok:X.Ok){b:Addr}{o:Obj}(e:X.base.get? b=some o):b∉X.fs:=fun hb=>by
 have:=(ok.funs.mem hb).1;rw[e]at this;cases this
theorem Inv.bs(I:Inv X pins σ H s):∀b o,X.base.get? b=some o->s.heap.get? b=some o/\H b=none:=fun b o e =>
 ⟨I.base.keep b o (I.ok.bs b o e).1 (I.ok.bs b o e).2 (I.ok.nofr e) (I.ok.noex b o e),I.base.free b o (I.ok.bs b o e).1 (I.ok.bs b o e).2 (I.ok.noex b o e)⟩
theorem Inv.bk(I:Inv X pins σ H s):∀b o,X.base.get? b=some o->s.heap.get? b=some o:=fun b o e=>(I.bs b o e).1
theorem Inv.mod(I:Inv X pins σ H s):Mod X.K X.mg X.base:=I.ok.mod
theorem Inv.kIn(I:Inv X pins σ H s):X.K.In s.heap:=I.ok.mod.kin.keeps I.bk
theorem Inv.lt(I:Inv X pins σ H s):X.env.locals<s.heap.objs.size:=let⟨_,hn,_⟩:=I.loc;hn.lt
theorem Inv.sz(I:Inv X pins σ H s):X.s₀.heap.objs.size<=s.heap.objs.size:=Eh I.ok.above (FR I.lt)
theorem Inv.nofs(I:Inv X pins σ H s){a:Addr}(h:s.heap.objs.size<=a):a∉X.fs:=fun hb=>by
 obtain⟨_,o,ho,_⟩:=I.ok.funs.mem hb;exact absurd (ET (EA ho) (Eh I.sz h)) (FL _)
theorem Inv.cne(I:Inv X pins σ H s):∀x c,X.env.cells.lookup x=some c->c≠X.env.locals:=fun x c e z=>by
 obtain⟨v,o,ho,hd⟩:=I.cell x c e;obtain⟨m,⟨o',es,ep,ho',hd',_⟩,_⟩:=I.loc;rw[z,ho']at ho;cases ho;rw[hd']at hd;cases hd
theorem Inv.funs(I:Inv X pins σ H s):s.heap.FunFrames X.base X.outer:=by
 have all:∀(l:List Env),(∀b∈oM l,b∈X.fs)->X.s₀.heap.FunFrames X.base l->s.heap.FunFrames X.base l:=by
  intro l
  induction l with
  | nil=>intro _ _;trivial
  | cons env r ih =>
   intro hs hl;obtain⟨hk,⟨L,o,hf,hn,ho,hd⟩,hr⟩:=hl;have hL:L∈X.fs:=hs L (by unfold oM;rw[Fa,hf];exact Ds);obtain⟨sl,e⟩:=I.base.slot L o ho (I.ok.frf L hL) hL fun z=>I.ok.exfs L z hL;exact⟨hk,⟨L,_,hf,hn,e,hd⟩,ih (fun b hb=>hs b (by unfold oM;rw[Fa,hf];exact Dq _ hb)) hr⟩
 exact all X.outer (fun _ hb=>hb) I.ok.funs
theorem Inv.stack(I:Inv X pins σ H s):s.heap.FunFrames X.base X.stack:=by
 rcases I.ok.stk with e|⟨e,hf⟩
 ·rw[e];exact I.funs
 ·rw[e]
  obtain⟨m,hn,_⟩:=I.loc;refine .cons (by rw[I.ok.kind];decide) hf hn ?_ I.funs;exact Heap.get?_none_of_le (Eh I.ok.bsz I.ok.above)
theorem Inv.stkSub(I:Inv X pins σ H s):∀b∈oM X.stack,b∈X.env.locals::X.fs:=fun b hb=>by
 rcases I.ok.stk with e|⟨e,hf⟩
 ·rw[e]at hb;exact Dq _ hb
 ·rw[e]at hb
  unfold oM at hb;rw[Fa,hf]at hb;exact hb
theorem Inv.stkFree(I:Inv X pins σ H s):∀b∈oM X.stack,H b=none:=fun b hb=>by
 rcases D8.mp (I.stkSub b hb)with e|hb
 ·rw[e];exact I.free
 ·obtain⟨_,o,ho,_⟩:=I.ok.funs.mem hb
  exact I.base.free b o ho (I.ok.frf b hb) fun z=>I.ok.exfs b z hb
theorem Inv.step{g' :Array GenState}{t' :Nat}{d' :Drawn}{ch:List Addr}(I:Inv X pins σ H s)
  (hch:∀b∈ch,(b∈X.ex\/X.s₀.heap.objs.size<=b)/\b≠X.env.locals/\(∀x c,X.env.cells.lookup x=some c->c≠b)/\∀p∈X.pn++pins,p.1≠b)
  (keep:∀b o,b≠X.env.locals->b∉X.fs->b∉ch->s.heap.get? b=some o->H b=none->h'.get? b=some o)
  (slot:∀b o,b≠X.env.locals->b∈X.fs->b∉ch->s.heap.get? b=some o->H b=none->∃sl,h'.get? b=some {o with slots:=sl}) (free:∀b o,b∉ch->s.heap.get? b=some o->H b=none->H' b=none)
  (there:∀b o,b∉ch->s.heap.get? b=some o->∃o',h'.get? b=some o')
  (tups:∀b xs,H b=some (.tup xs)->H' b=some (.tup xs)) (frzs:∀b o u,H b=some (.frz o u)->H' b=some (.frz o u)) (tbls:∀b ps,H b=some (.tbl ps)->∃more,H' b=some (.tbl (ps++more)))
  (ns:∀m,s.heap.Ns X.env.locals m->h'.Ns X.env.locals m) (hok:dz X.prog X.w H' h') (hg:AllBare g') :
  Inv X pins σ H' {s with heap:=h',gens:=g',drawn:=d',toks:=t'}:=by
 have neL:∀b o,X.s₀.heap.get? b=some o->b≠X.env.locals:=fun b o e=>EI (ET (EA e) I.ok.above);have neC:∀b o,X.s₀.heap.get? b=some o->b∉X.ex->b∉ch:=fun b o e hx hb=>by
  rcases(hch b hb).1 with z|z
  ·exact hx z
  ·exact absurd (ET (EA e) z) (FL _)
 have cellK:∀x c,X.env.cells.lookup x=some c->∀v,s.heap.IsCell c v->h'.IsCell c v:=fun x c e v ⟨o,ho,hd⟩=>by
  have nch:c∉ch:=fun z=>(hch c z).2.2.1 x c e rfl
  by_cases hc:c∈X.fs
  ·obtain⟨sl,q⟩:=slot c o (I.cne x c e) hc nch ho (I.freeC x c e)
   exact⟨_,q,hd⟩
  ·exact⟨o,keep c o (I.cne x c e) hc nch ho (I.freeC x c e),hd⟩
 refine⟨I.ok,I.os,hg,⟨fun b o e n hb hx=> ?_,fun b o e n hb hx=> ?_,fun b o e n hx=> ?_,fun b o e hx=> ?_,fun b xs e=>tups b xs (I.base.tups b xs e),fun b o xs e=>frzs b o xs (I.base.frzs b o xs e),fun b ps e=> ?_⟩,?_,fun x c e=> ?_,?_,fun x c e=> ?_,fun p hp=> ?_,hok,I.len⟩
 ·exact keep b o (neL b o e) hb (neC b o e hx) (I.base.keep b o e n hb hx) (I.base.free b o e n hx)
 ·obtain⟨sl,e1⟩:=I.base.slot b o e n hb hx
  obtain⟨sl',e2⟩:=slot b _ (neL b o e) hb (neC b o e hx) e1 (I.base.free b o e n hx);exact⟨sl',e2⟩
 ·obtain⟨o',e1⟩:=I.base.there b o e hx
  exact free b o' (neC b o e hx) e1 (I.base.free b o e n hx)
 ·obtain⟨o',e1⟩:=I.base.there b o e hx
  exact there b o' (neC b o e hx) e1
 ·obtain⟨m1,e1⟩:=I.base.tbls b ps e
  obtain⟨m2,e2⟩:=tbls b _ e1;exact⟨m1++m2,by rw[e2,Array.append_assoc]⟩
 ·obtain⟨m,hn,hl⟩:=I.loc
  refine⟨m,ns m hn,fun i x v e1 e2 e3=> ?_⟩;obtain⟨u,r,l⟩:=hl i x v e1 e2 e3;refine⟨u,r,?_⟩
  rcases l with l|⟨k,c,e,z⟩
  ·exact .inl l
  ·exact .inr ⟨k,c,e,cellK x c e _ z⟩
 ·obtain⟨v,z⟩:=I.cell x c e
  exact⟨v,cellK x c e v z⟩
 ·obtain⟨m,⟨o,_,_,ho,_⟩,_⟩:=I.loc
  exact free _ o (fun z=>(hch _ z).2.1 rfl) ho I.free
 ·obtain⟨v,o,ho,hd⟩:=I.cell x c e
  exact free c o (fun z=>(hch c z).2.2.1 x c e rfl) ho (I.freeC x c e)
 ·obtain⟨e,n,ne,nf,d⟩:=I.pin p hp
  have nch:p.1∉ch:=fun z=>(hch p.1 z).2.2.2 p hp rfl;exact⟨keep p.1 p.2 ne nf nch e n,free p.1 p.2 nch e n,ne,nf,d⟩
theorem Inv.un{t' :Nat}(I:Inv X pins σ H s)(u:Un X.fs [] H H' s.heap h')(hok:dz X.prog X.w H' h'):Inv X pins σ H' {s with heap:=h',toks:=t'}:=by
 obtain⟨m,⟨o,es,ep,ho,r⟩,_⟩:=id I.loc;obtain⟨sl,hL⟩:=u.any ho I.free (by simp);exact I.step (g' :=s.gens) (d' :=s.drawn) (ch:=[]) (fun _ z=>nomatch z) (fun b o _ hb _ e n=>u.keep b o e n hb (by simp)) (fun b o _ hb _ e n=>u.slot b o e n hb (by simp)) (fun b o _ e n=>u.free b o e n (by simp)) (fun b o _ e=>u.there b o e (by simp)) u.tups u.frzs u.tbls (fun m' hm=>by
  obtain⟨o',es',ep',ho',r'⟩:=hm;rw[ho]at ho';cases ho';exact⟨_,es',ep',hL,r'⟩) hok I.bare
theorem Inv.call{g' :Array GenState}{t' :Nat}{d' :Drawn}{ch:List Addr}(I:Inv X pins σ H s)(u:Un (oM X.stack) ch H H' s.heap h')(hok:dz X.prog X.w H' h')(hg:AllBare g')
  (hch:∀b∈ch,(b∈X.ex\/X.s₀.heap.objs.size<=b)/\b≠X.env.locals/\(∀x c,X.env.cells.lookup x=some c->c≠b)/\∀p∈X.pn++pins,p.1≠b) :
  Inv X pins σ H' {s with heap:=h',gens:=g',drawn:=d',toks:=t'}:=by
 obtain⟨m,⟨o,es,ep,ho,r⟩,_⟩:=id I.loc;obtain⟨sl,hL⟩:=u.any ho I.free fun z=>(hch _ z).2.1 rfl;exact I.step (ch:=ch) hch (fun b o hL hb hc e n=>u.keep b o e n (fun z=>(D8.mp (I.stkSub b z)).elim hL hb) hc) (fun b o _ _ hc e n=>u.any e n hc) (fun b o hc e n=>u.free b o e n hc) (fun b o hc e=>u.there b o e hc) u.tups u.frzs u.tbls (fun m' hm=>by
  obtain⟨o',es',ep',ho',r'⟩:=hm;rw[ho]at ho';cases ho';exact⟨_,es',ep',hL,r'⟩) hok hg
theorem Inv.turned{t' :Nat}{it:Addr}(I:Inv X pins σ H s)(k:∀b o,b≠it->s.heap.get? b=some o->h'.get? b=some o)(hn:H it=none)(hL:it≠X.env.locals)
  (h1:it∈X.ex\/X.s₀.heap.objs.size<=it) (h2:∀x c,X.env.cells.lookup x=some c->c≠it) (h3:∀p∈X.pn++pins,p.1≠it):Inv X pins σ H {s with heap:=h',toks:=t'}:=by
 have nit:∀b u,H b=some u->b≠it:=fun b u e z=>by rw[z,hn]at e;cases e
 refine I.step (g' :=s.gens) (d' :=s.drawn) (ch:=[it]) (fun b hb=> ?_) (fun b o _ _ hc e _=>k b o (fun z=>hc (by simp[z])) e) (fun b o _ _ hc e _=>⟨o.slots,k b o (fun z=>hc (by simp[z])) e⟩) (fun _ _ _ _ n=>n)
  (fun b o hc e=>⟨o,k b o (fun z=>hc (by simp[z])) e⟩) (fun _ _ e=>e) (fun _ _ _ e=>e) (fun b ps e=>⟨#[],by rw[e];simp⟩) (fun m hm=> ?_) (fun b u e=> ?_) I.bare
 ·have e:b=it:=by simpa using hb
  subst e;exact⟨h1,hL,h2,h3⟩
 ·obtain⟨o,es,ep,ho,r⟩:=hm
  exact⟨o,es,ep,k _ o (Fd hL) ho,r⟩
 ·refine(I.hok b u e).stay (fun c v hc q=>k c v ?_ q) (fun _ q=>q) fun _ _ q=>q
  rcases hc with z|z
  ·rw[z];exact nit b u e
  ·exact nit c _ z
theorem Inv.tok(I:Inv X pins σ H s)(t:Nat):Inv X pins σ H {s with toks:=t}:=I.un (h' :=s.heap) (t' :=t) Un.refl I.hok
theorem Inv.kept{t' :Nat}(I:Inv X pins σ H s)(k:∀b u,s.heap.get? b=some u->h'.get? b=some u):Inv X pins σ H {s with heap:=h',toks:=t'}:=I.un (Un.kept k) (I.hok.kept k)
theorem Inv.laid{a:Addr}{o:HO}{t' :Nat}(I:Inv X pins σ H s)(k:∀b u,s.heap.get? b=some u->h'.get? b=some u)(hp:s.heap.objs.size<=a)(new:ar X.prog X.w (upd H a o) h' a o) :
  Inv X pins σ (upd H a o) {s with heap:=h',toks:=t'}:=I.un (Un.laid k hp (I.hok.fresh hp)) (I.hok.laid k hp new)
theorem Inv.write{x e:Addr}{o:HO}{t' :Nat}(I:Inv X pins σ H s)(mu:Dg (H x))(he:e=x\/H e=some (.own x))(k:∀b u,b≠e->s.heap.get? b=some u->h'.get? b=some u)(heo:∃u,h'.get? e=some u)
  (new:ar X.prog X.w (upd H x o) h' x o):Inv X pins σ (upd H x o) {s with heap:=h',toks:=t'}:=I.un (Un.write mu he k heo) (I.hok.write mu he k heo new)
theorem Inv.weak{σ' :List (Option V)}(I:Inv X pins σ H s)(hl:σ'.length=σ.length)(w:∀(i:Nat) v,σ'[i]? =some (some v)->σ[i]? =some (some v)):Inv X pins σ' H s :=
 ⟨I.ok,I.os,I.bare,I.base,let⟨m,hn,hl'⟩:=I.loc;⟨m,hn,fun i x v e1 e2 e3=>hl' i x v e1 (w i v e2) e3⟩,I.cell,I.free,I.freeC,I.pin,I.hok,hl.trans I.len⟩
theorem Inv.pins_of{pins' :List (Addr×Obj)}(I:Inv X pins σ H s)(h:∀p∈pins',s.heap.get? p.1=some p.2/\H p.1=none/\p.1≠X.env.locals/\p.1∉X.fs/\∀v,p.2.data≠.cell v):Inv X pins' σ H s :=
 ⟨I.ok,I.os,I.bare,I.base,I.loc,I.cell,I.free,I.freeC,fun p hp=>(EL.mp hp).elim (fun z=>I.pin p (EH _ z)) (h p),I.hok,I.len⟩
theorem mH{N:List Str}(hN:N.Nodup){i j:Nat}{x:Str}(a:N[i]? =some x)(b:N[j]? =some x):i=j:=by
 obtain⟨h1,e1⟩:=D1.mp a;obtain⟨h2,e2⟩:=D1.mp b;exact(List.getElem_inj hN).mp (e1.trans e2.symm)
theorem jO{M:Model}{A:Around}{E:Value->Shared->Prop}{i:Nat}{x:Str}{v:V}{u:Value}{Q:Unit->Shared->Prop}(I:Inv X pins σ H s)(hN:X.N.Nodup)(hi:X.N[i]? =some x)(hx:Loc X.env.scope x)(r:RelV v u)
  (h:∀s',Inv X pins (σ.set i (some v)) H s' ->(∃a,Heap.SameBut a s.heap s'.heap/\(a=X.env.locals\/X.env.cells.lookup x=some a))->Q () s') (hf:X.fn x=true\/X.env.scope.names.lookup x=some .local:=by first|exact .inl rfl|exact .inr rfl|assumption):wpAny M A (storeName X.env x u) Q E s:=by
 obtain⟨m,hn,hl⟩:=id I.loc;have hcls:(X.env.scope.kind== .class||(X.env.scope.kind== .module&&X.env.locals !=X.env.globals))=false:=by rw[I.ok.kind];rfl
 have hiσ:i<σ.length:=by rw[I.len];exact(D1.mp hi).1
 have cne:=I.cne;have tracked:∀{a:Addr}{h' :Heap},(∃o,s.heap.get? a=some o/\H a=none)->Heap.SameBut a s.heap h' ->dz X.prog X.w H h' :=fun{a h'} ha hs b ob e=>by
  obtain⟨_,_,hfree⟩:=ha;refine(I.hok b ob e).stay (fun c w' hc q=>(hs.2 c ?_).trans q) (fun _ q=>q) fun _ _ q=>q;rintro rfl
  rcases hc with rfl|hc
  ·rw[hfree]at e;cases e
  ·rw[hfree]at hc;cases hc
 rcases hx with hk|hk
 ·refine wpAny_storeName_local hk hn (fun h' hn' hs=> ?_) hcls
  obtain⟨oL,_,_,hoL,_⟩:=id hn;refine h _ ⟨I.ok,I.os,I.bare,⟨fun b o e n hb hx=> ?_,fun b o e n hb hx=> ?_,I.base.free,fun b o e hx=> ?_,I.base.tups,I.base.frzs,I.base.tbls⟩,⟨_,hn',fun j y v' e1 e2 e3=> ?_⟩,fun y c e=> ?_,I.free,I.freeC,fun p hp=> ?_,tracked ⟨oL,hoL,I.free⟩ hs,by simpa using I.len⟩ ⟨_,hs,.inl rfl⟩
  ·exact(hs.2 b (EI (ET (EA e) I.ok.above))).trans (I.base.keep b o e n hb hx)
  ·obtain⟨sl,e1⟩:=I.base.slot b o e n hb hx
   exact⟨sl,(hs.2 b (EI (ET (EA e) I.ok.above))).trans e1⟩
  ·obtain⟨o',e1⟩:=I.base.there b o e hx
   exact⟨o',(hs.2 b (EI (ET (EA e) I.ok.above))).trans e1⟩
  ·by_cases hj:j=i
   ·subst hj
    rw[hi]at e1;cases e1;rw[Eu hiσ]at e2;cases e2;exact⟨u,r,.inl ⟨hk,by simp⟩⟩
   ·rw[Ec (Fd hj)]at e2
    obtain⟨u',r',q⟩:=hl j y v' e1 e2 e3;refine⟨u',r',?_⟩
    rcases q with⟨k,e⟩|⟨k,c,e,z⟩
    ·refine .inl ⟨k,?_⟩
     have:y≠x:=fun e=>hj (mH hN e1 (e▸hi));simp[this,e]
    ·exact .inr ⟨k,c,e,z.sameBut hs (cne y c e)⟩
  ·obtain⟨w',z⟩:=I.cell y c e
   exact⟨w',z.sameBut hs (cne y c e)⟩
  ·obtain⟨e,n,ne,nf,d⟩:=I.pin p hp
   exact⟨(hs.2 p.1 ne).trans e,n,ne,nf,d⟩
 ·have hfn:X.fn x=true:=by
   rcases hf with z|z
   ·exact z
   ·rw[z]at hk;cases hk
  obtain⟨c,hc⟩:=I.ok.has x (.inl hk);obtain⟨w',z⟩:=I.cell x c hc;refine wpAny_storeName_cell I.ok.kind hk hc z (fun h' hc' hs=> ?_);obtain⟨oc,hoc,hocd⟩:=id z;refine h {s with heap:=h'} ⟨I.ok,I.os,I.bare,⟨fun b o e n hb hx=> ?_,fun b o e n hb hx=> ?_,I.base.free,fun b o e hx=> ?_,I.base.tups,I.base.frzs,I.base.tbls⟩,⟨m,hn.sameBut hs (Fd (cne x c hc)),fun j y v' e1 e2 e3=> ?_⟩,fun y c' e=> ?_,I.free,I.freeC,fun p hp=> ?_,tracked ⟨oc,hoc,I.freeC x c hc⟩ hs,by simpa using I.len⟩ ⟨c,hs,.inr hc⟩
  ·exact(hs.2 b (EI (ET (EA e) (I.ok.cab x c hfn hc)))).trans (I.base.keep b o e n hb hx)
  ·obtain⟨sl,e1⟩:=I.base.slot b o e n hb hx
   exact⟨sl,(hs.2 b (EI (ET (EA e) (I.ok.cab x c hfn hc)))).trans e1⟩
  ·obtain⟨o',e1⟩:=I.base.there b o e hx
   exact⟨o',(hs.2 b (EI (ET (EA e) (I.ok.cab x c hfn hc)))).trans e1⟩
  ·by_cases hj:j=i
   ·subst hj
    rw[hi]at e1;cases e1;rw[Eu hiσ]at e2;cases e2;exact⟨u,r,.inr ⟨.inl hk,c,hc,hc'⟩⟩
   ·rw[Ec (Fd hj)]at e2
    obtain⟨u',r',q⟩:=hl j y v' e1 e2 e3;refine⟨u',r',?_⟩
    rcases q with q|⟨k,c',e,z'⟩
    ·exact .inl q
    ·refine .inr ⟨k,c',e,z'.sameBut hs ?_⟩
     rintro rfl;exact hj (mH hN e1 (I.ok.inj _ _ _ e hc▸hi))
  ·by_cases hcc:c' =c
   ·subst hcc;exact⟨_,hc'⟩
   ·obtain⟨w2,z2⟩:=I.cell y c' e
    exact⟨w2,z2.sameBut hs hcc⟩
  ·obtain⟨e,n,ne,nf,d⟩:=I.pin p hp
   refine⟨(hs.2 p.1 ?_).trans e,n,ne,nf,d⟩;intro q;rw[q,hoc]at e;have q' :oc=p.2:=EJ e;exact d w' (by rw[<- q'];exact hocd)
theorem gy{M:Model}{A:Around}{E:Value->Shared->Prop}{i:Nat}{x:Str}{v:V}{u:Value}{Q:Unit->Shared->Prop}(I:Inv X pins σ H s)(hN:X.N.Nodup)(hi:X.N[i]? =some x)(hx:Loc X.env.scope x)(r:RelV v u)
  (h:∀s',Inv X pins (σ.set i (some v)) H s' ->Q () s') (hf:X.fn x=true\/X.env.scope.names.lookup x=some .local:=by first|exact .inl rfl|exact .inr rfl|assumption):wpAny M A (storeName X.env x u) Q E s :=
 jO I hN hi hx r (fun s' I' _=>h s' I') hf
theorem Inv.call'{s' :Shared}{ch:List Addr}(I:Inv X pins σ H s)(ho:s'.os=s.os)(u:Un (oM X.stack) ch H H' s.heap s'.heap)(hok:dz X.prog X.w H' s'.heap)(hg:AllBare s'.gens)
  (hch:∀b∈ch,(b∈X.ex\/X.s₀.heap.objs.size<=b)/\b≠X.env.locals/\(∀x c,X.env.cells.lookup x=some c->c≠b)/\∀p∈X.pn++pins,p.1≠b):Inv X pins σ H' s' :=by
 obtain⟨h',g',d',t',o'⟩:=s';have e:o' =s.os:=ho;subst e;exact I.call (g' :=g') (t' :=t') (d' :=d') u hok hg hch
end
noncomputable abbrev XK:=Value->Option Addr->Hp->Prop
noncomputable abbrev St:=List (Option V)
noncomputable abbrev VK:=V->Hp->Prop
noncomputable abbrev TE:=St->Hp->VK->Prop
noncomputable abbrev TT:=St->Hp->(Bool->Hp->Prop)->Prop
noncomputable abbrev TA:=St->Hp->(List V->Hp->Prop)->Prop
structure dJ where
 nx:St->Hp->Prop
 rt:VK
 bk:St->Hp->Prop:=fun _ _=>False
 ct:St->Hp->Prop:=fun _ _=>False
noncomputable abbrev TS:=dJ->St->Hp->Prop
noncomputable def EP(X:Cx)(pins:List (Addr×Obj))(σ:St)(Q:VK)(u:Value)(s' :Shared):Prop:=∃v H',Inv X pins σ H' s' /\RelV v u/\Q v H'
noncomputable def TP(X:Cx)(pins:List (Addr×Obj))(σ:St)(Q:Bool->Hp->Prop)(b:Bool)(s' :Shared):Prop:=∃H',Inv X pins σ H' s' /\Q b H'
noncomputable def AP(X:Cx)(pins:List (Addr×Obj))(σ:St)(Q:List V->Hp->Prop)(us:List Value)(s' :Shared):Prop:=∃vs H',Inv X pins σ H' s' /\aQ vs us/\Q vs H'
noncomputable def SP(X:Cx)(pins:List (Addr×Obj))(D:dJ)(f:Flow)(s' :Shared):Prop :=
 match f with
 | .next=>∃σ' H',Inv X pins σ' H' s' /\D.nx σ' H'
 | .brk=>∃σ' H',Inv X pins σ' H' s' /\D.bk σ' H'
 | .cont=>∃σ' H',Inv X pins σ' H' s' /\D.ct σ' H'
 | .ret u=>∃v σ' H',Inv X pins σ' H' s' /\RelV v u/\D.rt v H'
noncomputable def PE(X:Cx)(e:Expr)(t:TE):Prop :=
 ∀(pins:List (Addr×Obj))(s:Shared)(σ:St)(H:Hp)(Q:VK),Inv X pins σ H s->t σ H Q->wpAny (model X.prog X.w) X.A (eval e X.env) (EP X pins σ Q) X.xe s
noncomputable def PT(X:Cx)(e:Expr)(t:TT):Prop :=
 ∀(pins:List (Addr×Obj))(s:Shared)(σ:St)(H:Hp)(Q:Bool->Hp->Prop),Inv X pins σ H s->t σ H Q->wpAny (model X.prog X.w) X.A (isTrue e X.env (eval e X.env)) (TP X pins σ Q) X.xe s
noncomputable def PW(X:Cx)(e:Expr)(t:TT):Prop :=
 ∀(whole:Sem Value)(pins:List (Addr×Obj))(s:Shared)(σ:St)(H:Hp)(Q:Bool->Hp->Prop),Inv X pins σ H s->t σ H Q->wpAny (model X.prog X.w) X.A (isTrue e X.env whole) (TP X pins σ Q) X.xe s
theorem PW.pt{X:Cx}{e:Expr}{t:TT}(h:PW X e t):PT X e t:=h _
noncomputable def PA(X:Cx)(es:List Expr)(t:TA):Prop :=
 ∀(pos:Pos)(pins:List (Addr×Obj))(s:Shared)(σ:St)(H:Hp)(Q:List V->Hp->Prop),Inv X pins σ H s->t σ H Q->wpAny (model X.prog X.w) X.A (spliced (backTo pos (starEach es X.env))) (AP X pins σ Q) X.xe s
noncomputable def PS(X:Cx)(st:Stmt)(t:TS):Prop :=
 ∀(pins:List (Addr×Obj))(s:Shared)(σ:St)(H:Hp)(D:dJ),Inv X pins σ H s->t D σ H->wpAny (model X.prog X.w) X.A (exec st X.env) (SP X pins D) X.xe s
noncomputable def oz(X:Cx)(st:List Stmt)(t:TS):Prop :=
 ∀(pins:List (Addr×Obj))(s:Shared)(σ:St)(H:Hp)(D:dJ),Inv X pins σ H s->t D σ H->wpAny (model X.prog X.w) X.A (execs st X.env) (SP X pins D) X.xe s
theorem aj{α:Type}{t:Sem α}{Q Q' :α->Shared->Prop}{M:Model}{A:Around}{E:Value->Shared->Prop}{s:Shared}(h:wpAny M A t Q E s)(hQ:∀a s,Q a s->Q' a s):wpAny M A t Q' E s:=FB h hQ fun _ _ x=>x
section
variable{X:Cx}
theorem bin{a b:Expr}{ta tb:TE}(ha:PE X a ta)(hb:PE X b tb){pins:List (Addr×Obj)}{s:Shared}{σ:St}{H:Hp}{R:V->V->Hp->Prop}(I:Inv X pins σ H s)(h:ta σ H fun x H1=>tb σ H1 fun y H2=>R x y H2)
  {α:Type} {Q:α->Shared->Prop} {f:Value->Value->Sem α}
  (hf:∀v u s2 x y H2,Inv X pins σ H2 s2->RelV x v->RelV y u->R x y H2->wpAny (model X.prog X.w) X.A (f v u) Q X.xe s2) :
  wpAny (model X.prog X.w) X.A (eval a X.env) (fun v s₁=>wpAny (model X.prog X.w) X.A (eval b X.env) (fun u s₂=>wpAny (model X.prog X.w) X.A (f v u) Q X.xe s₂) X.xe s₁) X.xe s:=by
 refine aj (ha pins s σ H _ I h) fun v s1 hpq=> ?_;obtain⟨x,H1,I1,r1,q1⟩:=hpq;refine aj (hb pins s1 σ H1 _ I1 q1) fun u s2 hpq=> ?_;obtain⟨y,H2,I2,r2,q2⟩:=hpq;exact hf v u s2 x y H2 I2 r1 r2 q2
noncomputable def CA(i:Nat):TE:=fun σ H Q=>∃v,σ[i]? =some (some v)/\Q v H
noncomputable def tC(v:V):TE:=fun _ H Q=>Q v H
theorem n6{i:Nat}{x:Str}{pos:Pos}(hN:X.N[i]? =some x)(hv:Bv X.env.scope x)(hd:(x==("__debug__":Str))=false:=by decide)(hcd:(x==("__classdict__":Str))=false:=by decide):PE X (.Name x pos) (CA i):=by
 intro pins s σ H Q I h;obtain⟨v,e,h⟩:=h;obtain⟨m,hn,hl⟩:=I.loc;obtain⟨u,r,l⟩:=hl i x v hN e hv;have fin:EP X pins σ Q u s:=⟨v,H,I,r,h⟩
 rcases l with⟨hk,hm⟩|⟨hk,c,hc,hcell⟩
 ·exact wpAny_Name (wpAny_loadName_local I.ok.kind hk hn hm fin) hd
 ·rcases hk with hk|hk
  ·exact wpAny_Name (wpAny_loadName_cell I.ok.kind hk hc hcell fin) hd
  ·exact wpAny_Name (wpAny_loadName_free I.ok.kind hk hc hcell fin hcd) hd
theorem fj{i j pos}:PE X (.Constant (.int i) j pos) (tC (.int i)):=fun _ _ _ H _ I h=>wpAny_Constant_int ⟨.int i,H,I.tok _,⟨_,rfl⟩,h⟩
theorem pP{b j pos}:PE X (.Constant (.bool b) j pos) (tC (.bl b)):=fun _ _ _ H _ I h=>Constant_bool ⟨.bl b,H,I,rfl,h⟩
theorem AA{j pos}:PE X (.Constant .none j pos) (tC .non):=fun _ _ _ H _ I h=>Constant_none ⟨.non,H,I,rfl,h⟩
theorem tY{x j pos}:PE X (.Constant (.str x) j pos) (tC (.str x)):=fun _ _ _ H _ I h=>Calls.Constant_str ⟨.str x,H,I.tok _,⟨_,rfl⟩,h⟩
noncomputable def Gl(X:Cx)(x:Str):Prop:=X.env.kindOf x=some .globalImplicit
theorem pU{E:Value->Shared->Prop}{pins:List (Addr×Obj)}{s:Shared}{σ:St}{H:Hp}{x:Str}{u:Value}{pos:Pos}{Q:Value->Shared->Prop}(I:Inv X pins σ H s)(hg:Gl X x)(hm:X.mg x=some u)(h:Q u s)
  (hd:(x==("__debug__":Str))=false:=by decide):wpAny (model X.prog X.w) X.A (eval (.Name x pos) X.env) Q E s :=
 Calls.Name_function_global I.ok.kind hg (Calls.loadGlobal_global (by rw[I.ok.glob];exact I.mod.glob.keeps I.bk) hm h) hd
theorem dZ{E:Value->Shared->Prop}{pins:List (Addr×Obj)}{s:Shared}{σ:St}{H:Hp}{x:Str}{u:Value}{pos:Pos}{Q:Value->Shared->Prop}(I:Inv X pins σ H s)(hg:Gl X x)(hm:X.mg x=none)(hv:bootBuiltins x=some u)(h:Q u s)
  (hn:x≠"__name__":=by decide) (hd:(x==("__debug__":Str))=false:=by decide):wpAny (model X.prog X.w) X.A (eval (.Name x pos) X.env) Q E s:=by
 obtain⟨mb,h1,h2⟩:=I.mod.blt;exact Calls.Name_function_global I.ok.kind hg (Calls.loadGlobal_builtin (by rw[I.ok.glob];exact I.mod.glob.keeps I.bk) hm (by rw[I.ok.blt];exact h1.keeps I.bk) ((h2 x hn).trans hv) h) hd
theorem wj{x:Str}{v:V}{u:Value}{pos:Pos}(hg:Gl X x)(hm:X.mg x=some u)(r:RelV v u)(hd:(x==("__debug__":Str))=false:=by decide):PE X (.Name x pos) (tC v) :=
 fun _ _ _ H _ I h=>pU I hg hm ⟨v,H,I,r,h⟩ hd
variable{a b:Expr}{ta tb:TE}{pos:Pos}
noncomputable def PC(X:Cx)(op:CmpOp)(a b:Expr)(t:TE):Prop :=
 ∀(pins:List (Addr×Obj))(s:Shared)(σ:St)(H:Hp)(Q:VK),Inv X pins σ H s->t σ H Q ->
  wpAny (model X.prog X.w) X.A (eval a X.env) (fun v s₁=>wpAny (model X.prog X.w) X.A (eval b X.env) (fun u s₂=>wpAny (model X.prog X.w) X.A (compareOp op v u) (EP X pins σ Q) X.xe s₂) X.xe s₁) X.xe s
theorem uJ(b:Expr){op:CmpOp}(h:op≠.In)(h2:op≠.NotIn):behindInMarks op b=false:=by
 have e1:(op==CmpOp.In)=false:=by cases op<;>first|rfl|exact absurd rfl h
 have e2:(op==CmpOp.NotIn)=false:=by cases op<;>first|rfl|exact absurd rfl h2
 cases b<;>simp[behindInMarks,e1,e2]
noncomputable def tB(t:TE):TT:=fun σ H Q=>t σ H fun x H1=>∃c,x=.bl c/\Q c H1
theorem tL{op:CmpOp}{t:TE}(h:PC X op a b t)(h1:behindInMarks op b=false:=by first|exact uJ _ (by decide) (by decide)|rfl):PT X (.Compare a [op] [b] pos) (tB t):=by
 intro pins s σ H Q I hw;refine wpAny_isTrue_Compare1 (aj (h pins s σ H _ I hw) fun v s1 h1=>aj h1 fun u s2 h2=>aj h2 fun c s3 ⟨x,H1,I1,r1,q1⟩=> ?_) h1;obtain⟨d,rfl,q⟩:=q1;cases r1;exact FA ⟨H1,I1,q⟩
theorem zp{e:Expr}{t:TE}(h:PE X e t)(he:∀whole,isTrue e X.env whole=(do let v<-whole;standAt e.pos;holding [v] (truthy v)):=by intro _;rfl):PT X e (tB t):=by
 intro pins s σ H Q I hw;refine isTrue_plain (aj (h pins s σ H _ I hw) fun v s1 ⟨x,H1,I1,r1,q1⟩=> ?_) (he _);obtain⟨d,rfl,q⟩:=q1;cases r1;exact FA ⟨H1,I1,q⟩
variable{tA tB' :TT}{aN:List Expr}
noncomputable def tAnd(t u:TT):TT:=fun σ H Q=>t σ H fun c H1=>if c=true then u σ H1 Q else Q false H1
noncomputable def tOr(t u:TT):TT:=fun σ H Q=>t σ H fun c H1=>if c=true then Q true H1 else u σ H1 Q
noncomputable def tNot(t:TT):TT:=fun σ H Q=>t σ H fun c H1=>Q (!c) H1
theorem wT(ha:PT X a tA):PW X (.BoolOp .And [a] pos) tA:=by
 intro wh pins s σ H Q I h;refine isTrue_and (aj (ha pins s σ H Q I h) fun c s1 e=> ?_);cases c with
 | true=>exact isTrue_and_nil e
 | false=>exact e
theorem tH(ha:PT X a tA):PW X (.BoolOp .Or [a] pos) tA:=by
 intro wh pins s σ H Q I h;refine isTrue_or (aj (ha pins s σ H Q I h) fun c s1 e=> ?_);cases c with
 | false=>exact isTrue_or_nil e
 | true=>exact e
theorem zk(ha:PT X a tA)(hb:PW X (.BoolOp .And (b::aN) pos) tB'):PW X (.BoolOp .And (a::b::aN) pos) (tAnd tA tB'):=by
 intro wh pins s σ H Q I h;refine isTrue_and (aj (ha pins s σ H _ I h) fun c s1 hpq=> ?_);obtain⟨H1,I1,q1⟩:=hpq;cases c with
 | true=>exact hb wh pins s1 σ H1 Q I1 q1
 | false=>exact⟨H1,I1,q1⟩
theorem yY(ha:PT X a tA)(hb:PW X (.BoolOp .Or (b::aN) pos) tB'):PW X (.BoolOp .Or (a::b::aN) pos) (tOr tA tB'):=by
 intro wh pins s σ H Q I h;refine isTrue_or (aj (ha pins s σ H _ I h) fun c s1 hpq=> ?_);obtain⟨H1,I1,q1⟩:=hpq;cases c with
 | true=>exact⟨H1,I1,q1⟩
 | false=>exact hb wh pins s1 σ H1 Q I1 q1
theorem zq(ha:PT X a tA):PT X (.UnaryOp .Not a pos) (tNot tA):=by
 intro pins s σ H Q I h;exact isTrue_not (ha pins s σ H (fun c H1=>Q (!c) H1) I h)
noncomputable def CN(ta tb:TE):TE:=fun σ H Q=>ta σ H fun x H1=>∃c,x=.bl c/\if c=true then tb σ H1 Q else Q (.bl false) H1
noncomputable def tOrV(ta tb:TE):TE:=fun σ H Q=>ta σ H fun x H1=>∃c,x=.bl c/\if c=true then Q (.bl true) H1 else tb σ H1 Q
noncomputable def CF(ta:TE):TE:=fun σ H Q=>ta σ H fun x H1=>∃c,x=.bl c/\Q (.bl (!c)) H1
theorem zz{op}{t:TE}(h:PE X a t):PE X (.BoolOp op [a] pos) t:=fun pins s σ H Q I hw=>BoolOp_one (h pins s σ H Q I hw)
theorem tz(ha:PE X a ta)(hb:PE X (.BoolOp .And (b::aN) pos) tb):PE X (.BoolOp .And (a::b::aN) pos) (CN ta tb):=by
 intro pins s σ H Q I h;refine BoolOp_and (aj (ha pins s σ H _ I h) fun v s1 hpq=> ?_);obtain⟨x,H1,I1,r1,q1⟩:=hpq;obtain⟨c,rfl,q1⟩:=q1;cases r1;refine FA ?_;cases c with
 | true=>exact hb pins s1 σ H1 Q I1 q1
 | false=>exact⟨.bl false,H1,I1,rfl,q1⟩
theorem yb(ha:PE X a ta)(hb:PE X (.BoolOp .Or (b::aN) pos) tb):PE X (.BoolOp .Or (a::b::aN) pos) (tOrV ta tb):=by
 intro pins s σ H Q I h;refine BoolOp_or (aj (ha pins s σ H _ I h) fun v s1 hpq=> ?_);obtain⟨x,H1,I1,r1,q1⟩:=hpq;obtain⟨c,rfl,q1⟩:=q1;cases r1;refine FA ?_;cases c with
 | false=>exact hb pins s1 σ H1 Q I1 q1
 | true=>exact⟨.bl true,H1,I1,rfl,q1⟩
theorem z9(ha:PE X a ta):PE X (.UnaryOp .Not a pos) (CF ta):=by
 intro pins s σ H Q I h;refine UnaryOp_ (aj (ha pins s σ H _ I h) fun v s1 hpq=> ?_);obtain⟨x,H1,I1,r1,q1⟩:=hpq;obtain⟨c,rfl,q1⟩:=q1;cases r1;exact not_of (FA ⟨.bl (!c),H1,I1,rfl,q1⟩)
noncomputable def tIf(t:TT)(ta tb:TE):TE:=fun σ H Q=>t σ H fun c H1=>if c=true then ta σ H1 Q else tb σ H1 Q
theorem tq{c:Expr}(hc:PT X c tA)(ha:PE X a ta)(hb:PE X b tb):PE X (.IfExp c a b pos) (tIf tA ta tb):=by
 intro pins s σ H Q I h;refine wpAny_IfExp (aj (hc pins s σ H _ I h) fun d s1 hpq=> ?_);obtain⟨H1,I1,q1⟩:=hpq;cases d with
 | true=>exact ha pins s1 σ H1 Q I1 q1
 | false=>exact hb pins s1 σ H1 Q I1 q1
end
noncomputable def bJ(K:W.Frag)(H:Hp)(a:Addr)(xs:List V):Prop :=
 Rd H a (.lst xs) \/
  ∃(o:Obj)(its:Array Value)(n:Nat),K.lookup a=some o/\o.cls=.type "list"/\o.dict=none/\o.data=.seq its n/\its.size<=sizeLine/\aQ xs its.toList
noncomputable def cJ(K:W.Frag)(H:Hp)(a:Addr)(xs:List V):Prop :=
 Rd H a (.tup xs) \/
  ∃(o:Obj)(its:Array Value)(n:Nat),K.lookup a=some o/\o.cls=.type "tuple"/\o.dict=none/\o.data=.seq its n/\its.size<=sizeLine/\aQ xs its.toList
noncomputable def absV:Value->Option V
 | .none=>some .non
 | .bool b=>some (.bl b)
 | .int i _=>some (.int i)
 | .str x _=>some (.str x)
 | .bytes b _=>some (.byt b)
 | .float b _=>some (.flt b)
 | .ref a=>some (.ref a)
 | .type n=>some (.ty n)
 | _=>none
theorem RelV.abs{x:V}{u:Value}(r:RelV x u):absV u=some x:=by
 cases x with
 | non=>cases r;rfl
 | bl _=>cases r;rfl
 | int _=>obtain⟨t,rfl⟩:=r;rfl
 | str _=>obtain⟨t,rfl⟩:=r;rfl
 | byt _=>obtain⟨t,rfl⟩:=r;rfl
 | flt _=>obtain⟨t,rfl⟩:=r;rfl
 | ref _=>cases r;rfl
 | ty _=>cases r;rfl
theorem RelV.inj{x y:V}{u:Value}(r:RelV x u)(q:RelV y u):x=y:=EJ (r.abs.symm.trans q.abs)
theorem aQ.inj{xs ys:List V}{us:List Value}(h:aQ xs us)(k:aQ ys us):xs=ys:=by
 induction h generalizing ys with
 | nil=>cases k;rfl
 | cons r t ih =>
  cases k with
  | cons r' t' =>rw[r.inj r',ih t']
section
variable{X:Cx}{pins:List (Addr×Obj)}{σ:St}{H:Hp}{s:Shared}{a:Addr}{xs ys:List V}
theorem bJ.of{K:W.Frag}(h:H a=some (.lst xs)):bJ K H a xs:=.inl (.inl h)
theorem cJ.of{K:W.Frag}(h:H a=some (.tup xs)):cJ K H a xs:=.inl (.inl h)
theorem Inv.list(I:Inv X pins σ H s)(h:bJ X.K H a xs):∃its:List Value,aQ xs its/\PlainL s.heap a its.toArray/\xs.length<=sizeLine:=by
 rcases h with h|⟨o,its,n,hk,hc,hd,hs,hz,r⟩
 ·obtain⟨z,its,n,r,e⟩:=h.ok I.hok
  exact⟨its,r,⟨_,n,e,rfl,rfl,rfl⟩,z⟩
 ·refine⟨its.toList,r,⟨o,n,I.kIn a o hk,hc,hd,by simpa using hs⟩,?_⟩
  have e:=r.length;simp only[EQ]at e;omega
theorem Inv.tuple(I:Inv X pins σ H s)(h:cJ X.K H a xs):∃its:List Value,aQ xs its/\IsTup s.heap a its.toArray/\xs.length<=sizeLine:=by
 rcases h with h|⟨o,its,n,hk,hc,_,hs,hz,r⟩
 ·obtain⟨z,its,r,p⟩:=h.ok I.hok
  exact⟨its,r,p.tup,z⟩
 ·refine⟨its.toList,r,⟨o,I.kIn a o hk,hc,n,by simpa using hs⟩,?_⟩
  have e:=r.length;simp only[EQ]at e;omega
theorem Inv.tupleD(I:Inv X pins σ H s)(h:cJ X.K H a xs):∃o,s.heap.get? a=some o/\o.cls=.type "tuple"/\o.dict=none:=by
 rcases h with h|⟨o,its,n,hk,hc,hd,_⟩
 ·obtain⟨z,its,r,o,e,c,n,_,d⟩:=h.ok I.hok
  exact⟨o,e,c,d⟩
 ·exact⟨o,I.kIn a o hk,hc,hd⟩
theorem Inv.list_inj(I:Inv X pins σ H s)(h:bJ X.K H a xs)(h' :bJ X.K H a ys):xs=ys:=by
 obtain⟨its,r,⟨o,n,e,_,_,d⟩,_⟩:=I.list h;obtain⟨its',r',⟨o',n',e',_,_,d'⟩,_⟩:=I.list h';rw[e]at e';cases e';rw[d]at d'
 injection d' with d1 _
 have:its=its' :=by simpa using Ek Array.toList d1
 subst this;exact r.inj r'
theorem Inv.tuple_inj(I:Inv X pins σ H s)(h:cJ X.K H a xs)(h' :cJ X.K H a ys):xs=ys:=by
 obtain⟨its,r,⟨o,e,_,n,d⟩,_⟩:=I.tuple h;obtain⟨its',r',⟨o',e',_,n',d'⟩,_⟩:=I.tuple h';rw[e]at e';cases e';rw[d]at d'
 injection d' with d1 _
 have:its=its' :=by simpa using Ek Array.toList d1
 subst this;exact r.inj r'
end
noncomputable abbrev Cx.wish(X:Cx)(E:Value->Shared->Prop):Cx:={X with xe:=E}
noncomputable abbrev Cx.nox(X:Cx):Cx:=X.wish fun _ _=>False
theorem Cx.Ok.wish{X:Cx}(ok:X.Ok)(E:Value->Shared->Prop):(X.wish E).Ok :=
 ⟨ok.mod,ok.kind,ok.glob,ok.blt,ok.above,ok.inj,ok.has,ok.cab,ok.hd,ok.frames,ok.stk,ok.exf,ok.bs,ok.bsz,ok.noex,ok.exfs,ok.funs,ok.frf⟩
theorem Cx.Ok.unwish{X:Cx}{E:Value->Shared->Prop}(ok:(X.wish E).Ok):X.Ok :=
 ⟨ok.mod,ok.kind,ok.glob,ok.blt,ok.above,ok.inj,ok.has,ok.cab,ok.hd,ok.frames,ok.stk,ok.exf,ok.bs,ok.bsz,ok.noex,ok.exfs,ok.funs,ok.frf⟩
section
variable{X:Cx}{pins:List (Addr×Obj)}{σ:St}{H:Hp}{s:Shared}{E:Value->Shared->Prop}
theorem Inv.wish(I:Inv X pins σ H s)(E:Value->Shared->Prop):Inv (X.wish E) pins σ H s:=⟨I.ok.wish E,I.os,I.bare,I.base,I.loc,I.cell,I.free,I.freeC,I.pin,I.hok,I.len⟩
theorem Inv.unwish(I:Inv (X.wish E) pins σ H s):Inv X pins σ H s:=⟨I.ok.unwish,I.os,I.bare,I.base,I.loc,I.cell,I.free,I.freeC,I.pin,I.hok,I.len⟩
theorem SP.unwish{D:dJ}{f:Flow}{s' :Shared}(h:SP (X.wish E) pins D f s'):SP X pins D f s' :=by
 cases f with
 | next=>obtain⟨σ',H',I,q⟩:=h;exact⟨σ',H',I.unwish,q⟩
 | brk=>obtain⟨σ',H',I,q⟩:=h;exact⟨σ',H',I.unwish,q⟩
 | cont=>obtain⟨σ',H',I,q⟩:=h;exact⟨σ',H',I.unwish,q⟩
 | ret u=>obtain⟨v,σ',H',I,r,q⟩:=h;exact⟨v,σ',H',I.unwish,r,q⟩
theorem oz.nox{st:List Stmt}{t:TS}(h:oz X.nox st t):oz X st t:=fun pins s σ H D I hw =>
 FB (h pins s σ H D (I.wish _) hw) (fun _ _ q=>q.unwish) fun _ _ z=>False.elim z
end
section
variable{X:Cx}{st:Stmt}{aN:List Stmt}{t u:TS}{e:Expr}{te:TE}{pos:Pos}
noncomputable def yU:TS:=fun D σ H=>D.nx σ H
noncomputable def tSeq(t u:TS):TS:=fun D σ H=>t {D with nx:=u D} σ H
theorem gm:oz X [] yU:=fun _ _ σ H _ I h=>wpAny_execs_nil ⟨σ,H,I,h⟩
theorem bL(h1:PS X st t)(h2:oz X aN u):oz X (st::aN) (tSeq t u):=by
 intro pins s σ H D I h;refine wpAny_execs_cons (aj (h1 pins s σ H {D with nx:=u D} I h) fun f s1 q=> ?_);cases f with
 | next =>
  obtain⟨σ',H',I',q⟩:=q;exact h2 pins s1 σ' H' D I' q
 | ret v=>exact q
 | brk=>exact q
 | cont=>exact q
theorem bK(h1:PS X st t):oz X [st] t:=by
 intro pins s σ H D I h;refine wpAny_execs_cons (aj (h1 pins s σ H D I h) fun f s1 q=> ?_);cases f with
 | next=>exact wpAny_execs_nil q
 | ret v=>exact q
 | brk=>exact q
 | cont=>exact q
noncomputable def zO:TS:=fun D σ H=>D.bk σ H
noncomputable def CJ:TS:=fun D σ H=>D.ct σ H
theorem wW:PS X (.Pass pos) yU:=fun _ _ σ H _ I h=>wpAny_Pass ⟨σ,H,I,h⟩
theorem tP:PS X (.Break pos) zO:=fun _ _ σ H _ I h=>wpAny_Break ⟨σ,H,I,h⟩
theorem mB:PS X (.Continue pos) CJ:=fun _ _ σ H _ I h=>wpAny_Continue ⟨σ,H,I,h⟩
theorem Inv.quiet{pins:List (Addr×Obj)}{σ:St}{H:Hp}{s:Shared}(I:Inv X pins σ H s):interactive X.env=false:=by simp[interactive,I.ok.kind]
noncomputable def CG(te:TE):TS:=fun D σ H=>te σ H fun _ H1=>D.nx σ H1
theorem pN(he:PE X e te)(hs:swapsWith e none pos.line X.env=pure false:=by rfl):PS X (.Expr e pos) (CG te):=by
 intro pins s σ H D I h;exact wpAny_Expr_any (aj (he pins s σ H _ I h) fun v s1 ⟨x,H1,I1,r1,q1⟩=>⟨σ,H1,I1,q1⟩) I.quiet hs
noncomputable def tRet(te:TE):TS:=fun D σ H=>te σ H D.rt
theorem hZ(he:PE X e te):PS X (.Return (some e) pos) (tRet te):=by
 intro pins s σ H D I h;exact wpAny_Return_some (aj (he pins s σ H _ I h) fun v s1 ⟨x,H1,I1,r1,q1⟩=>⟨x,σ,H1,I1,r1,q1⟩)
noncomputable def CC:TS:=fun D _ H=>D.rt .non H
theorem wV:PS X (.Return none pos) CC:=fun _ _ σ H _ I h=>wpAny_Return_none ⟨.non,σ,H,I,rfl,h⟩
noncomputable def tIfS(c:TT)(t u:TS):TS:=fun D σ H=>c σ H fun b H1=>if b=true then t D σ H1 else u D σ H1
theorem pM{c:Expr}{a b:List Stmt}{tc:TT}(hc:PT X c tc)(ha:oz X a t)(hb:oz X b u):PS X (.If c a b pos) (tIfS tc t u):=by
 intro pins s σ H D I h;refine wpAny_If (aj (hc pins s σ H _ I h) fun d s1 hpq=> ?_);obtain⟨H1,I1,q1⟩:=hpq;cases d with
 | true=>exact ha pins s1 σ H1 D I1 q1
 | false=>exact hb pins s1 σ H1 D I1 q1
end
noncomputable abbrev TG:=V->St->Hp->(St->Hp->Prop)->Prop
noncomputable abbrev BZ:=List V->St->Hp->(St->Hp->Prop)->Prop
noncomputable def PG(X:Cx)(target:Expr)(t:TG):Prop :=
 ∀(pins:List (Addr×Obj))(s:Shared)(σ:St)(H:Hp)(v:V)(u:Value)(Q:St->Hp->Prop),Inv X pins σ H s->RelV v u->t v σ H Q ->
  wpAny (model X.prog X.w) X.A (assign target X.env u) (fun _ s' =>∃σ' H',Inv X pins σ' H' s' /\Q σ' H') X.xe s
noncomputable def DX(X:Cx)(ts:List Expr)(t:BZ):Prop :=
 ∀(pins:List (Addr×Obj))(s:Shared)(σ:St)(H:Hp)(vs:List V)(us:List Value)(Q:St->Hp->Prop),Inv X pins σ H s->aQ vs us->t vs σ H Q ->
  wpAny (model X.prog X.w) X.A (assignInOrder ((assignEach ts X.env).map (·.2)) us) (fun _ s' =>∃σ' H',Inv X pins σ' H' s' /\Q σ' H') X.xe s
noncomputable abbrev TIp:=V->V->Hp->VK->Prop
noncomputable def PIp(X:Cx)(op:Operator)(t:TIp):Prop :=
 ∀(pins:List (Addr×Obj))(s:Shared)(σ:St)(H:Hp)(x y:V)(v u:Value)(Q:VK),Inv X pins σ H s->RelV x v->RelV y u->t x y H Q ->
  wpAny (model X.prog X.w) X.A (inplaceOp op v u) (EP X pins σ Q) X.xe s
section
variable{X:Cx}{pos:Pos}
noncomputable def mY(i:Nat):TG:=fun v σ H Q=>Q (σ.set i (some v)) H
theorem aq{i:Nat}{x:Str}(hN:X.N.Nodup)(hi:X.N[i]? =some x)(hx:Loc X.env.scope x)(hf:X.fn x=true\/X.env.scope.names.lookup x=some .local:=by first|exact .inl rfl|exact .inr rfl|assumption):PG X (.Name x pos) (mY i):=by
 intro pins s σ H v u Q I r h;exact wpAny_assign_Name (gy I hN hi hx r (fun s' I' =>⟨_,H,I',h⟩) hf)
noncomputable def gNil:BZ:=fun vs σ H Q=>vs=[]/\Q σ H
noncomputable def C7(t:TG)(u:BZ):BZ:=fun vs σ H Q=>∃v r,vs=v::r/\t v σ H fun σ' H' =>u r σ' H' Q
theorem fE:DX X [] gNil:=by
 intro pins s σ H vs us Q I r h;obtain⟨e,h⟩:=h;subst e;cases r;exact assignInOrder_nil ⟨σ,H,I,h⟩
theorem bM{e:Expr}{es:List Expr}{t:TG}{u:BZ}(h1:PG X e t)(h2:DX X es u)
  (hs:(assignEach (e::es) X.env).map (·.2)=assign e X.env::(assignEach es X.env).map (·.2):=by rfl):DX X (e::es) (C7 t u):=by
 intro pins s σ H vs us Q I r h;obtain⟨v,vr,e1,h⟩:=h;subst e1;cases r with
 | cons r rr =>
  rw[hs];refine assignInOrder_cons (aj (h1 pins s σ H _ _ _ I r h) fun _ s1 hpq=> ?_);obtain⟨σ1,H1,I1,q1⟩:=hpq;exact h2 pins s1 σ1 H1 _ _ Q I1 rr q1
noncomputable def gTup(K:W.Frag)(n:Nat)(t:BZ):TG:=fun v σ H Q=>∃a xs,v=.ref a/\cJ K H a xs/\xs.length=n/\t xs σ H Q
theorem iC{es:List Expr}{k:Nat}{t:BZ}{n:Nat}(hc:X.calm=true)(h:DX X es t)
  (hn:(assignEach es X.env).length=n:=by rfl) (hst:(assignEach es X.env).findIdx? (·.1)=none:=by rfl):PG X (.Tuple es k pos) (gTup X.K n t):=by
 intro pins s σ H v u Q I r hw;obtain⟨a,xs,e1,hq,hl,hw⟩:=hw;subst e1;cases r;obtain⟨its,rv,ht,hz⟩:=I.tuple hq;refine assign_Tuple_tuple (I.ok.hd hc) ht (by simp[hn,<-hl,rv.length]) hst fun h' hx=> ?_;have I1:Inv X pins σ H {s with heap:=h'}:=I.kept (t' :=s.toks) fun b o e=>hx b o (EI (EA e)) e;exact h pins _ σ H xs _ Q I1 (by simpa using rv) hw
noncomputable def CM(te:TE)(g:TG):TS:=fun D σ H=>te σ H fun x H1=>g x σ H1 D.nx
theorem hX{i:Nat}{x:Str}{e:Expr}{te:TE}{pos' :Pos}(hN:X.N.Nodup)(hi:X.N[i]? =some x)(hx:Loc X.env.scope x)(he:PE X e te)(hs:swapsWith e (some (.Name x pos')) pos.line X.env=pure false:=by rfl)(hf:X.fn x=true\/X.env.scope.names.lookup x=some .local:=by first|exact .inl rfl|exact .inr rfl|assumption) :
  PS X (.Assign [.Name x pos'] e pos) (CM te (mY i)):=by
 intro pins s σ H D I h;refine wpAny_Assign_Name (aj (he pins s σ H _ I h) fun v s1 ⟨y,H1,I1,r1,q1⟩=> ?_) hs;exact gy I1 hN hi hx r1 (fun s2 I2=>⟨_,H1,I2,q1⟩) hf
noncomputable def tAug(i:Nat)(te:TE)(ti:TIp):TS:=fun D σ H=>∃x,σ[i]? =some (some x)/\te σ H fun y H1=>ti x y H1 fun z H2=>D.nx (σ.set i (some z)) H2
theorem zr{i:Nat}{x:Str}{e:Expr}{te:TE}{op:Operator}{ti:TIp}{pos' :Pos}(hN:X.N.Nodup)(hi:X.N[i]? =some x)(hx:Loc X.env.scope x)(he:PE X e te)(ho:PIp X op ti)(hf:X.fn x=true\/X.env.scope.names.lookup x=some .local:=by first|exact .inl rfl|exact .inr rfl|assumption) :
  PS X (.AugAssign (.Name x pos') op e pos) (tAug i te ti):=by
 intro pins s σ H D I h;obtain⟨v,e1,h⟩:=h;obtain⟨m,hn,hl⟩:=I.loc;have zC:Bv X.env.scope x:=by rcases hx with k|k;exact .inl k;exact .inr (.inl k)
 obtain⟨u,r,l⟩:=hl i x v hi e1 zC;refine wpAny_AugAssign_Name ?_;have go:wpAny (model X.prog X.w) X.A (eval e X.env) (fun w s₂=>wpAny (model X.prog X.w) X.A (inplaceOp op u w) (fun r s₃=>wpAny (model X.prog X.w) X.A (storeName X.env x r) (fun _=>SP X pins D .next) X.xe s₃) X.xe s₂) X.xe s:=by
  refine aj (he pins s σ H _ I h) fun w s1 hpq=> ?_;obtain⟨y,H1,I1,r1,q1⟩:=hpq;refine aj (ho pins s1 σ H1 v y u w _ I1 r r1 q1) fun z s2 hpq=> ?_;obtain⟨zv,H2,I2,r2,q2⟩:=hpq;exact gy I2 hN hi hx r2 (fun s3 I3=>⟨_,H2,I3,q2⟩) hf
 rcases l with⟨hk,hm⟩|⟨hk,c,hc,hcell⟩
 ·exact wpAny_loadName_local I.ok.kind hk hn hm go
 ·rcases hk with hk|hk
  ·exact wpAny_loadName_cell I.ok.kind hk hc hcell go
  ·rcases hx with k|k
   ·have:X.env.scope.names.lookup x=some .free:=hk
    rw[k]at this;cases this
   ·have:X.env.scope.names.lookup x=some .free:=hk
    rw[k]at this;cases this
noncomputable def ipI(f:Int->Int->Int):TIp:=fun x y H Q=>∃i j,x=.int i/\y=.int j/\Q (.int (f i j)) H
theorem Ak:PIp X .Add (ipI fun i j=>i+j):=by
 intro pins s σ H x y v u Q I r1 r2 h;obtain⟨i,j,e1,e2,q⟩:=h;subst e1;subst e2;obtain⟨t,rfl⟩:=r1;obtain⟨t',rfl⟩:=r2;exact iadd_int ⟨.int _,H,I.tok _,⟨_,rfl⟩,q⟩
theorem Aj:PIp X .Sub (ipI fun i j=>i-j):=by
 intro pins s σ H x y v u Q I r1 r2 h;obtain⟨i,j,e1,e2,q⟩:=h;subst e1;subst e2;obtain⟨t,rfl⟩:=r1;obtain⟨t',rfl⟩:=r2;exact isub_int ⟨.int _,H,I.tok _,⟨_,rfl⟩,q⟩
noncomputable def zL(c:TT)(tb:TS):TS:=fun D σ H=>∃W:Nat->St->Hp->Prop,(∃m,W m σ H)/\∀m σ H,W m σ H ->
 c σ H fun b H1=>if b=true then∃N:St->Hp->Prop,(∀σ' H',N σ' H' ->∃m',m' <m/\W m' σ' H')/\tb {D with nx:=N,ct:=N,bk:=D.nx} σ H1 else D.nx σ H1
theorem tN{c:Expr}{body:List Stmt}{tc:TT}{tb:TS}(hp:PassesOwn (model X.prog X.w) X.A X.env X.xe)(hc:PT X c tc)(hb:oz X body tb):PS X (.While c body [] pos) (zL tc tb):=by
 intro pins s σ H D I h;obtain⟨W,⟨m0,w0⟩,turn⟩:=h;refine wpAny_While (codeAny_whileLoop (fun n s' =>∃σ' H',Inv X pins σ' H' s' /\W n σ' H') ?_ m0 ⟨σ,H,I,w0⟩);rintro n s1 ⟨σ1,H1,I1,w1⟩;refine FV hp (aj (hc pins s1 σ1 H1 _ I1 (turn n σ1 H1 w1)) fun b s2 hpq=> ?_);obtain⟨H2,I2,q2⟩:=hpq;cases b with
 | true =>
  obtain⟨N,hN,q2⟩:=q2;rw[D3 rfl];refine FV hp (aj (hb pins s2 σ1 H2 _ I2 q2) fun f s3 q3=> ?_);cases f with
  | next =>
   obtain⟨σ3,H3,I3,n3⟩:=q3;obtain⟨m',hm,w3⟩:=hN σ3 H3 n3;exact⟨m',hm,σ3,H3,I3,w3⟩
  | cont =>
   obtain⟨σ3,H3,I3,n3⟩:=q3;obtain⟨m',hm,w3⟩:=hN σ3 H3 n3;exact⟨m',hm,σ3,H3,I3,w3⟩
  | brk=>exact q3
  | ret v=>exact q3
 | false =>
  rw[Dz Dy];exact wpAny_execs_nil ⟨σ1,H2,I2,q2⟩
end
structure It where
 go:Nat->Hp->Prop
 yld:Nat->Hp->V->Hp->Prop
 stop:Nat->Hp->Prop
noncomputable def gG(X:Cx)(pins:List (Addr×Obj))(H:Hp)(b:Addr):Prop :=
 H b=none/\b≠X.env.locals/\b∉X.fs/\(b∈X.ex\/X.s₀.heap.objs.size<=b)/\(∀x c,X.env.cells.lookup x=some c->c≠b)/\∀p∈X.pn++pins,p.1≠b
theorem Inv.fpOk{X:Cx}{pins:List (Addr×Obj)}{σ:St}{H H' :Hp}{s:Shared}{b:Addr}(I:Inv X pins σ H s)(hb:s.heap.objs.size<=b)(hn:H' b=none):gG X pins H' b:=by
 refine⟨hn,Fi (ET I.lt hb),I.nofs hb,.inr (Eh I.sz hb),fun x c e z=> ?_,fun p hp z=> ?_⟩
 ·obtain⟨v,q⟩:=I.cell x c e
  exact absurd (ET q.lt (by rw[z];exact hb)) (FL _)
 ·exact absurd (ET (EA (I.pin p hp).1) (by rw[z];exact hb)) (FL _)
structure oq(P:Program)(w:World)(K:W.Frag)(tg:Expr)(J:It)(fp:List Addr)(it:Addr)(tn:Nat->Heap->Prop):Prop where
 mem:it∈fp
 obj:∀i h,tn i h->∀b∈fp,∃o,h.get? b=some o/\∀v,o.data≠.cell v
 keep:∀i h h',tn i h->(∀b∈fp,∀o,h.get? b=some o->h'.get? b=some o)->tn i h'
 item:∀(X:Cx),X.prog=P->X.w=w->X.K=K->X.calm=true->∀(i:Nat)(pins:List (Addr×Obj))(s:Shared)(σ:St)(H:Hp)(E:Value->Shared->Prop),Inv X pins σ H s->(∀b∈fp,gG X pins H b)->tn i s.heap->J.go i H ->
  wpAny (model P w) X.A (pyNext (.ref it)) (fun r s1=>∃u,r=some u /\
   wpAny (model P w) X.A (letOwnedTupleGo tg (.ref it) u) (fun _ s2=>∃x H',Inv X pins σ H' s2/\RelV x u/\J.yld i H x H' /\tn (i+1) s2.heap/\∀b∈fp,H' b=none) E s1) E s
 done:∀(X:Cx),X.prog=P->X.w=w->X.K=K->X.calm=true->∀(i:Nat)(pins:List (Addr×Obj))(s:Shared)(σ:St)(H:Hp)(E:Value->Shared->Prop),Inv X pins σ H s->(∀b∈fp,gG X pins H b)->tn i s.heap->J.stop i H ->
  wpAny (model P w) X.A (pyNext (.ref it)) (fun r s1=>r=none/\Inv X pins σ H s1) E s
 self:∀(A:Around)(i:Nat)(s:Shared)(Q:Value->Shared->Prop)(E:Value->Shared->Prop),tn i s.heap->Q (.ref it) s->wpAny (model P w) A (pyIter (.ref it)) Q E s
noncomputable abbrev TI:=St->Hp->(It->Hp->Prop)->Prop
noncomputable def PIE(X:Cx)(pins:List (Addr×Obj))(σ:St)(tg:Expr)(R:It->Hp->Prop)(itv:Value)(s2:Shared):Prop :=
 ∃(it:Addr)(fp:List Addr)(tn:Nat->Heap->Prop)(J:It)(H' :Hp),itv=.ref it/\Inv X pins σ H' s2/\oq X.prog X.w X.K tg J fp it tn/\tn 0 s2.heap/\(∀b∈fp,gG X pins H' b)/\R J H'
noncomputable def PI(X:Cx)(tg iter:Expr)(wi:TI):Prop :=
 ∀(pins:List (Addr×Obj))(s:Shared)(σ:St)(H:Hp)(R:It->Hp->Prop),Inv X pins σ H s->wi σ H R ->
  wpAny (model X.prog X.w) X.A (eval iter X.env) (fun v s1=>wpAny (model X.prog X.w) X.A (pyIter v) (PIE X pins σ tg R) X.xe s1) X.xe s
theorem pZ{M:Model}{A:Around}{E:Value->Shared->Prop}{s:Shared}{tg:Expr}{it:Addr}{u:Value}{o:Obj}{n:String}{vs:Array Value}{Q:Unit->Shared->Prop}(ho:s.heap.get? it=some o)(hc:o.cls=.type n)(hd:o.data=.fields vs)
    (hn:["enumerate","zip","dict_itemiterator","dict_reverseitemiterator","odict_iterator","itertools.zip_longest","itertools.pairwise"].contains n=false) (hQ:Q () s):wpAny M A (letOwnedTupleGo tg (.ref it) u) Q E s:=by
  unfold letOwnedTupleGo
  cases tg<;>first
    | exact ES hQ
    | (cases u<;>first
        | exact ES hQ
        | (refine D6 (wpAny_load ho ?_)
           rw[hc,hd];show wpAny M A (if(["enumerate","zip","dict_itemiterator","dict_reverseitemiterator","odict_iterator","itertools.zip_longest","itertools.pairwise"].contains n&&vs[0]? ==some (rawInt _))=true then _ else _) Q E s;rw[Dz (by intro h;rw[hn,F5]at h;cases h)];exact ES hQ))
noncomputable def Bi(K:W.Frag)(a:Addr):It :=
 ⟨fun i H=>∃xs x,bJ K H a xs/\xs[i]? =some x,fun i H x H' =>H' =H/\∀xs,bJ K H a xs->xs[i]? =some x,fun i H=>∃xs,bJ K H a xs/\xs.length<=i⟩
noncomputable def Itt(K:W.Frag)(a:Addr):It :=
 ⟨fun i H=>∃xs x,cJ K H a xs/\xs[i]? =some x,fun i H x H' =>H' =H/\∀xs,cJ K H a xs->xs[i]? =some x,fun i H=>∃xs,cJ K H a xs/\xs.length<=i⟩
noncomputable def yu(lo:Int)(n:Nat):It:=⟨fun i _=>i<n,fun i H x H' =>H' =H/\x=.int (lo+i),fun i _=>n<=i⟩
theorem qF{P:Program}{w:World}{K:W.Frag}{tg:Expr}(a it:Addr):oq P w K tg (Bi K a) [it] it (fun i h=>h.IsListIter it a i) where
 mem:=by simp
 obj:=fun i h st b hb=>by
  have e:b=it:=by simpa using hb
  subst e;obtain⟨o,e,c,d⟩:=st;exact⟨o,e,fun v z=>by rw[d]at z;cases z⟩
 keep:=fun i h h' st k=>st.at fun o e=>k it (by simp) o e
 item:=by
  intro X hP hw hK hc i pins s σ H E I hf st hg;subst hP hw hK;obtain⟨xs,x,hq,hx⟩:=hg;obtain⟨its,rv,p,hz⟩:=I.list hq;obtain⟨u,hu,ru⟩:=rv.get hx;obtain⟨f0,f1,f2,f3,f4,f5⟩:=hf it (by simp);refine wpAny_pyNext_list_item st p.isList (x:=u) (by simpa using hu) fun h' st' sb=> ?_;have I1:Inv X pins σ H {s with heap:=h'}:=I.turned (t' :=s.toks) (fun b o hb e=>(sb.2 b hb).trans e) f0 f1 f3 f4 f5;obtain⟨o,e,c,d⟩:=id st';exact⟨u,rfl,pZ (s:={s with heap:=h'}) e c d (by decide) ⟨x,H,I1,ru,⟨rfl,fun ys hy=>by rw[I.list_inj hy hq];exact hx⟩,st',fun b hb=>(hf b hb).1⟩⟩
 done:=by
  intro X hP hw hK hc i pins s σ H E I hf st hg;subst hP hw hK;obtain⟨xs,hq,hx⟩:=hg;obtain⟨its,rv,p,hz⟩:=I.list hq;obtain⟨f0,f1,f2,f3,f4,f5⟩:=hf it (by simp);have hl:=rv.length;exact wpAny_pyNext_list_end (I.ok.hd hc) st p.isList (by simp;omega) fun h' eb=>⟨rfl,I.turned (t' :=s.toks) (fun b o hb e=>eb b o hb e) f0 f1 f3 f4 f5⟩
 self:=fun _ _ _ _ _ st h=>wpAny_pyIter_listiter st h
theorem nU{P:Program}{w:World}{K:W.Frag}{tg:Expr}(a it:Addr):oq P w K tg (Itt K a) [it] it (fun i h=>h.IsTupleIter it a i) where
 mem:=by simp
 obj:=fun i h st b hb=>by
  have e:b=it:=by simpa using hb
  subst e;obtain⟨o,e,c,d⟩:=st;exact⟨o,e,fun v z=>by rw[d]at z;cases z⟩
 keep:=fun i h h' st k=>st.at fun o e=>k it (by simp) o e
 item:=by
  intro X hP hw hK hc i pins s σ H E I hf st hg;subst hP hw hK;obtain⟨xs,x,hq,hx⟩:=hg;obtain⟨its,rv,p,hz⟩:=I.tuple hq;obtain⟨u,hu,ru⟩:=rv.get hx;obtain⟨f0,f1,f2,f3,f4,f5⟩:=hf it (by simp);refine wpAny_pyNext_tuple_item st (show s.heap.IsTuple a its.toArray from p) (x:=u) (by simpa using hu) fun h' st' sb=> ?_;have I1:Inv X pins σ H {s with heap:=h'}:=I.turned (t' :=s.toks) (fun b o hb e=>(sb.2 b hb).trans e) f0 f1 f3 f4 f5;obtain⟨o,e,c,d⟩:=id st';exact⟨u,rfl,pZ (s:={s with heap:=h'}) e c d (by decide) ⟨x,H,I1,ru,⟨rfl,fun ys hy=>by rw[I.tuple_inj hy hq];exact hx⟩,st',fun b hb=>(hf b hb).1⟩⟩
 done:=by
  intro X hP hw hK hc i pins s σ H E I hf st hg;subst hP hw hK;obtain⟨xs,hq,hx⟩:=hg;obtain⟨its,rv,p,hz⟩:=I.tuple hq;obtain⟨f0,f1,f2,f3,f4,f5⟩:=hf it (by simp);have hl:=rv.length;exact wpAny_pyNext_tuple_end (I.ok.hd hc) st (show s.heap.IsTuple a its.toArray from p) (by simp;omega) fun h' eb=>⟨rfl,I.turned (t' :=s.toks) (fun b o hb e=>eb b o hb e) f0 f1 f3 f4 f5⟩
 self:=fun _ _ _ _ _ st h=>wpAny_pyIter_tupleiter st h
theorem nV{P:Program}{w:World}{K:PySem.W.Frag}{tg:Expr}(it:Addr)(lo:Int)(n:Nat):oq P w K tg (yu lo n) [it] it (fun i h=>IsRangeIter h it (lo+(i:Nat)*1) ((n:Int)-(i:Nat)) 1) where
 mem:=by simp
 obj:=fun i h st b hb=>by
  have e:b=it:=by simpa using hb
  subst e;exact⟨_,st,fun v z=>by
   have z' :Data.fields _=Data.cell v:=z;cases z'⟩
 keep:=fun i h h' st k=>k it (by simp) _ st
 item:=by
  intro X hP hw hK hc i pins s σ H E I hf st hg;subst hP hw hK;obtain⟨f0,f1,f2,f3,f4,f5⟩:=hf it (by simp);have W:=Walks.range (prog:=X.prog) (w:=X.w) (I.ok.hd hc) it lo 1 n;refine W.item i s _ _ hg st fun v h' tk hv st' kk=> ?_;obtain⟨t,rfl⟩:=hv;have I1:Inv X pins σ H {s with heap:=h',toks:=tk}:=I.turned (fun b o hb e=>kk b o (by simpa using hb) e) f0 f1 f3 f4 f5;refine⟨_,rfl,pZ (s:={s with heap:=h',toks:=tk}) (n:="range_iterator") st' rfl rfl (by decide) ⟨.int (lo+i),H,I1,⟨t,?_⟩,⟨rfl,rfl⟩,st',fun b hb=>(hf b hb).1⟩⟩;rw[Int.mul_one]
 done:=by
  intro X hP hw hK hc i pins s σ H E I hf st hg;subst hP hw hK;obtain⟨f0,f1,f2,f3,f4,f5⟩:=hf it (by simp);exact wpAny_pyNext_range_end (I.ok.hd hc) st (by have:n<=i:=hg;omega) fun h' eb=>⟨rfl,I.turned (t' :=s.toks) (fun b o hb e=>eb b o hb e) f0 f1 f3 f4 f5⟩
 self:=fun _ _ _ _ _ st h=>wpAny_pyIter_rangeiter st h
section
variable{X:Cx}{tg:Expr}
noncomputable def C5(K:W.Frag)(tl:TE):TI:=fun σ H R=>tl σ H fun x H1=>∃a,x=.ref a/\(∃xs,bJ K H1 a xs)/\R (Bi K a) H1
noncomputable def iTup(K:W.Frag)(tl:TE):TI:=fun σ H R=>tl σ H fun x H1=>∃a,x=.ref a/\(∃xs,cJ K H1 a xs)/\R (Itt K a) H1
theorem dj{l:Expr}{tl:TE}(hl:PE X l tl):PI X tg l (C5 X.K tl):=by
 intro pins s σ H R I h;refine aj (hl pins s σ H _ I h) fun v s1 hpq=> ?_;obtain⟨x,H1,I1,r1,q1⟩:=hpq;obtain⟨a,e,⟨xs,hq⟩,q⟩:=q1;subst e;cases r1;obtain⟨its,rv,p,hz⟩:=I1.list hq;refine wpAny_pyIter_list p.isList ?_;refine⟨s1.heap.objs.size,[s1.heap.objs.size],_,_,H1,rfl,I1.kept (t' :=s1.toks) fun b o e=>Dr _ e,qF a _,⟨_,EB _ rfl,rfl,rfl⟩,fun b hb=> ?_,q⟩;have e:b=s1.heap.objs.size:=by simpa using hb
 subst e;exact I1.fpOk (Dx _) (I1.hok.fresh (Dx _))
theorem tV{l:Expr}{tl:TE}(hl:PE X l tl):PI X tg l (iTup X.K tl):=by
 intro pins s σ H R I h;refine aj (hl pins s σ H _ I h) fun v s1 hpq=> ?_;obtain⟨x,H1,I1,r1,q1⟩:=hpq;obtain⟨a,e,⟨xs,hq⟩,q⟩:=q1;subst e;cases r1;obtain⟨its,rv,p,hz⟩:=I1.tuple hq;refine GA (show s1.heap.IsTuple a its.toArray from p) ?_;refine⟨s1.heap.objs.size,[s1.heap.objs.size],_,_,H1,rfl,I1.kept (t' :=s1.toks) fun b o e=>Dr _ e,nU a _,⟨_,EB _ rfl,rfl,rfl⟩,fun b hb=> ?_,q⟩;have e:b=s1.heap.objs.size:=by simpa using hb
 subst e;exact I1.fpOk (Dx _) (I1.hok.fresh (Dx _))
theorem lx{pins:List (Addr×Obj)}{σ:St}{H:Hp}{s:Shared}{R:It->Hp->Prop}{E:Value->Shared->Prop}{lo hi:Int}{t u v:Tok}{tk:Nat}(I:Inv X pins σ H s)(h1: -(2^62)<=lo)(h2:lo<2^62)(h3: -(2^62)<=hi)(h4:hi<2^62)
  (q:R (yu lo (hi-lo).toNat) H):wpAny (model X.prog X.w) X.A (pyIter (.ref s.heap.objs.size)) (PIE X pins σ tg R) E {s with heap:=s.heap.push {cls:=.type "range",data:=.fields #[.int lo t,.int hi u,.int 1 v]},toks:=tk}:=by
 refine wpAny_pyIter_range (IsRange.new ..) (small_one h1 h2 h3 h4) ?_;have I1:Inv X pins σ H {s with heap:=s.heap.push {cls:=.type "range",data:=.fields #[.int lo t,.int hi u,.int 1 v]},toks:=tk}:=I.kept fun b o e=>Dr _ e
 refine⟨(s.heap.push {cls:=.type "range",data:=.fields #[.int lo t,.int hi u,.int 1 v]}).objs.size,[(s.heap.push {cls:=.type "range",data:=.fields #[.int lo t,.int hi u,.int 1 v]}).objs.size],_,_,H,rfl,
  I1.kept (t' :=tk) fun b o e=>Dr _ e,nV _ lo (hi-lo).toNat,?_,fun b hb=> ?_,q⟩
 ·have e1:lo+((0:Nat):Int)*1=lo:=by simp
  have e2:(((hi-lo).toNat:Nat):Int)-((0:Nat):Int)=Builtin.Range.rangeSize lo hi 1:=by rw[rangeSize_one];split<;>omega
  show IsRangeIter _ _ (lo+((0:Nat):Int)*1) ((((hi-lo).toNat:Nat):Int)-((0:Nat):Int)) 1;rw[e1,e2];exact EB _ rfl
 ·have e:b=(s.heap.push {cls:=.type "range",data:=.fields #[.int lo t,.int hi u,.int 1 v]}).objs.size:=by simpa using hb
  subst e;exact I1.fpOk (Dx _) (I1.hok.fresh (Dx _))
noncomputable def C4(ta:TA):TI:=fun σ H R=>ta σ H fun vs H1=>∃j:Int,vs=[.int j]/\ -(2^62)<=j/\j<2^62/\R (yu 0 j.toNat) H1
noncomputable def C3(ta:TA):TI:=fun σ H R=>ta σ H fun vs H1=>∃i j:Int,vs=[.int i,.int j]/\(-(2^62)<=i/\i<2^62/\ -(2^62)<=j/\j<2^62)/\R (yu i (j-i).toNat) H1
theorem jV{a:Expr}{ta:TA}{p pos:Pos}(hg:Gl X "range")(hm:X.mg "range"=none)(ha:PA X [a] ta)(hs:starEach [a] X.env=[(false,eval a X.env)]:=by rfl):PI X tg (.Call (.Name "range" p) [a] [] pos) (C4 ta):=by
 intro pins s σ H R I h;refine Call_ (dZ I hg hm boot_range (El (aj (ha pos pins s σ H _ I h) fun us s1 ⟨vs,H1,I1,r1,q1⟩=> ?_) hs rfl));obtain⟨j,e,q1,q2,q⟩:=q1;subst e;cases r1 with
 | cons r rr =>
  cases rr;obtain⟨t,rfl⟩:=r;exact call_range_1 (lx I1 (by omega) (by omega) q1 q2 (by simpa using q))
theorem qX{a b:Expr}{ta:TA}{p pos:Pos}(hg:Gl X "range")(hm:X.mg "range"=none)(ha:PA X [a,b] ta)(hs:starEach [a,b] X.env=[(false,eval a X.env),(false,eval b X.env)]:=by rfl)(hs2:starEach [b] X.env=[(false,eval b X.env)]:=by rfl) :
  PI X tg (.Call (.Name "range" p) [a,b] [] pos) (C3 ta):=by
 intro pins s σ H R I h;refine Call_ (dZ I hg hm boot_range (El (aj (ha pos pins s σ H _ I h) fun us s1 ⟨vs,H1,I1,r1,q1⟩=> ?_) (by rw[hs,hs2]) (by rw[hs2];rfl)));obtain⟨i,j,e,⟨q1,q2,q3,q4⟩,q⟩:=q1;subst e;cases r1 with
 | cons r rr =>
  cases rr with
  | cons r' rr =>
   cases rr;obtain⟨t,rfl⟩:=r;obtain⟨t',rfl⟩:=r';exact call_range_2 (lx I1 q1 q2 q3 q4 q)
noncomputable def tFor(wi:TI)(g:TG)(tb:TS):TS:=fun D σ H=>wi σ H fun J H1=>∃W:Nat->Nat->St->Hp->Prop,(∃m,W 0 m σ H1)/\∀i m σ H,W i m σ H ->
 (J.stop i H/\D.nx σ H)\/(J.go i H/\∃N:St->Hp->Prop,(∀σ' H',N σ' H' ->∃m',m' <m/\W (i+1) m' σ' H')/\∀x H',J.yld i H x H' ->g x σ H' fun σ2 H2=>tb {D with nx:=N,ct:=N,bk:=D.nx} σ2 H2)
noncomputable def iB(fp:List Addr)(h:Heap):List (Addr×Obj):=fp.filterMap fun b=>(h.get? b).map fun o=>(b,o)
theorem dE{fp:List Addr}{h:Heap}{b:Addr}{o:Obj}(hb:b∈fp)(e:h.get? b=some o):(b,o)∈iB fp h:=List.mem_filterMap.mpr ⟨b,hb,by rw[e];rfl⟩
theorem qY{fp:List Addr}{h:Heap}{p:Addr×Obj}(hp:p∈iB fp h):p.1∈fp/\h.get? p.1=some p.2:=by
 obtain⟨b,hb,e⟩:=List.mem_filterMap.mp hp;cases q:h.get? b with
 | none=>rw[q]at e;cases e
 | some o =>
  rw[q]at e;have e' :(b,o)=p:=EJ e;subst e';exact⟨hb,q⟩
theorem Inv.pinned{pins:List (Addr×Obj)}{σ:St}{H:Hp}{s:Shared}{fp:List Addr}(I:Inv X pins σ H s)(hf:∀b∈fp,gG X pins H b)(ho:∀b∈fp,∃o,s.heap.get? b=some o/\∀v,o.data≠.cell v):Inv X (pins++iB fp s.heap) σ H s :=
 I.pins_of fun p hp=>(EL.mp hp).elim (fun z=>I.pin p (EM _ z)) fun z=>by
  obtain⟨hb,e⟩:=qY z;obtain⟨f0,f1,f2,_⟩:=hf p.1 hb;obtain⟨o,e',d⟩:=ho p.1 hb;rw[e]at e';cases e';exact⟨e,f0,f1,f2,d⟩
theorem Inv.unpinned{pins pl:List (Addr×Obj)}{σ:St}{H:Hp}{s:Shared}(I:Inv X (pins++pl) σ H s):Inv X pins σ H s:=I.pins_of fun p hp=>I.pin p (EM _ (EH _ hp))
theorem fi{iter:Expr}{body:List Stmt}{wi:TI}{g:TG}{tb:TS}{pos:Pos}(hp:PassesOwn (model X.prog X.w) X.A X.env X.xe)(hc:X.calm=true)(hi:PI X tg iter wi)(hg:PG X tg g)(hb:oz X body tb)
  (hs:∀x,foldedSetIterable iter X.env x=pure x:=by intro _;rfl):PS X (.For tg iter body [] pos) (tFor wi g tb):=by
 intro pins s σ H D I h;refine wpAny_For (aj (hi pins s σ H _ I h) fun v s1 h1=>aj h1 fun itv s2 h2=> ?_) hs;obtain⟨it,fp,tn,J,H2,e,I2,T,st2,f2,W,⟨m0,w0⟩,turn⟩:=h2;subst e;have stat:∀{H' :Hp},(∀b∈fp,H' b=none)->∀b∈fp,gG X pins H' b:=fun hn b hb=>⟨hn b hb,(f2 b hb).2⟩;refine codeAny_forLoop_any (fun n s' =>∃i σ' H',Inv X pins σ' H' s' /\tn i s'.heap/\(∀b∈fp,H' b=none)/\W i n σ' H') ?_ m0 ⟨0,σ,H2,I2,st2,fun b hb=>(f2 b hb).1,w0⟩;rintro n s3 ⟨i,σ3,H3,I3,st3,fr3,w3⟩
 rcases turn i n σ3 H3 w3 with⟨stop,qn⟩|⟨go,N,hN,step⟩
 ·refine FV hp (aj (T.done X rfl rfl rfl hc i pins s3 σ3 H3 X.xe I3 (stat fr3) st3 stop) fun r s4 hpq=> ?_)
  obtain⟨hr,I4⟩:=hpq;subst hr;exact wpAny_execs_nil ⟨σ3,H3,I4,qn⟩
 ·refine FV hp (aj (T.item X rfl rfl rfl hc i pins s3 σ3 H3 X.xe I3 (stat fr3) st3 go) fun r s4 hpq=> ?_)
  obtain⟨u,hr,h4⟩:=hpq;subst hr;refine FV hp (aj h4 fun _ s5 hpq=> ?_);obtain⟨x,H5,I5,r5,y5,st5,fr5⟩:=hpq;have I5' :=I5.pinned (stat fr5) (T.obj _ _ st5);refine FV hp (aj (hg _ s5 σ3 H5 x u _ I5' r5 (step x H5 y5)) fun _ s6 hpq=> ?_);obtain⟨σ6,H6,I6,q6⟩:=hpq;refine FV hp (aj (hb _ s6 σ6 H6 _ I6 q6) fun f s7 q7=> ?_);have again:∀{σ7:St}{H7:Hp},Inv X (pins++iB fp s5.heap) σ7 H7 s7->N σ7 H7->∃m,m<n/\∃i σ' H',Inv X pins σ' H' s7/\tn i s7.heap/\(∀b∈fp,H' b=none)/\W i m σ' H' :=fun{σ7 H7} I7 n7=>by
   obtain⟨m',hm,w7⟩:=hN σ7 H7 n7;refine⟨m',hm,i+1,σ7,H7,I7.unpinned,T.keep _ _ _ st5 fun b hb o e=>(I7.pin (b,o) (EM _ (EM _ (dE hb e)))).1,fun b hb=> ?_,w7⟩;obtain⟨o,e,d⟩:=T.obj _ _ st5 b hb;exact(I7.pin (b,o) (EM _ (EM _ (dE hb e)))).2.1
  cases f with
  | next=>obtain⟨σ7,H7,I7,n7⟩:=q7;exact again I7 n7
  | cont=>obtain⟨σ7,H7,I7,n7⟩:=q7;exact again I7 n7
  | brk=>obtain⟨σ7,H7,I7,q7⟩:=q7;exact⟨σ7,H7,I7.unpinned,q7⟩
  | ret v=>obtain⟨x7,σ7,H7,I7,r7,q7⟩:=q7;exact⟨x7,σ7,H7,I7.unpinned,r7,q7⟩
end
theorem ma{K:PySem.W.Frag}{a:Addr}{xs:List V}{g:TG}{tb:TS}{D:dJ}{σ:St}{H:Hp}(Pv:Nat->St->Hp->Prop)(h0:Pv 0 σ H)(hl:∀i σ H,i<=xs.length->Pv i σ H->bJ K H a xs)
  (hs:∀i x σ H,xs[i]? =some x->Pv i σ H->g x σ H fun σ2 H2=>tb {D with nx:=Pv (i+1),ct:=Pv (i+1),bk:=D.nx} σ2 H2) (hd:∀σ H,Pv xs.length σ H->D.nx σ H) :
  ∃W:Nat->Nat->St->Hp->Prop,(∃m,W 0 m σ H)/\∀i m σ H,W i m σ H ->
   ((Bi K a).stop i H/\D.nx σ H)\/((Bi K a).go i H/\∃N:St->Hp->Prop,(∀σ' H',N σ' H' ->∃m',m' <m/\W (i+1) m' σ' H')/\∀x H',(Bi K a).yld i H x H' ->g x σ H' fun σ2 H2=>tb {D with nx:=N,ct:=N,bk:=D.nx} σ2 H2):=by
 refine⟨fun i m σ H=>m=xs.length-i/\i<=xs.length/\Pv i σ H,⟨xs.length,by simp,EY _,h0⟩,?_⟩;rintro i m σ H ⟨rfl,hi,p⟩;have q:=hl i σ H hi p
 by_cases hlt:i<xs.length
 ·refine .inr ⟨⟨xs,xs[i],q,by simp[hlt]⟩,Pv (i+1),fun σ' H' p' =>⟨xs.length-(i+1),by omega,rfl,hlt,p'⟩,fun x H' y=> ?_⟩
  obtain⟨e,y⟩:=y;subst e;exact hs i x σ _ (y xs q) p
 ·have e:i=xs.length:=by omega
  subst e;exact .inl ⟨⟨xs,q,Dx _⟩,hd σ H p⟩
theorem qw{lo:Int}{n:Nat}{g:TG}{tb:TS}{D:dJ}{σ:St}{H:Hp}(Pv:Nat->St->Hp->Prop)(h0:Pv 0 σ H)
  (hs:∀i σ H,i<n->Pv i σ H->g (.int (lo+i)) σ H fun σ2 H2=>tb {D with nx:=Pv (i+1),ct:=Pv (i+1),bk:=D.nx} σ2 H2) (hd:∀σ H,Pv n σ H->D.nx σ H) :
  ∃W:Nat->Nat->St->Hp->Prop,(∃m,W 0 m σ H)/\∀i m σ H,W i m σ H ->
   ((yu lo n).stop i H/\D.nx σ H)\/((yu lo n).go i H/\∃N:St->Hp->Prop,(∀σ' H',N σ' H' ->∃m',m' <m/\W (i+1) m' σ' H')/\∀x H',(yu lo n).yld i H x H' ->g x σ H' fun σ2 H2=>tb {D with nx:=N,ct:=N,bk:=D.nx} σ2 H2):=by
 refine⟨fun i m σ H=>m=n-i/\i<=n/\Pv i σ H,⟨n,by simp,EY _,h0⟩,?_⟩;rintro i m σ H ⟨rfl,hi,p⟩
 by_cases hlt:i<n
 ·refine .inr ⟨hlt,Pv (i+1),fun σ' H' p' =>⟨n-(i+1),by omega,rfl,hlt,p'⟩,fun x H' y=> ?_⟩
  obtain⟨e,y⟩:=y;subst e y;exact hs i σ _ hlt p
 ·have e:i=n:=by omega
  subst e;exact .inl ⟨Dx _,hd σ H p⟩
noncomputable abbrev R2:=V->V->Hp->VK->Prop
noncomputable def dw(X:Cx)(f:Value->Value->Sem Value)(r:R2):Prop :=
 ∀(pins:List (Addr×Obj))(s:Shared)(σ:St)(H:Hp)(x y:V)(v u:Value)(Q:VK),Inv X pins σ H s->RelV x v->RelV y u->r x y H Q ->
  wpAny (model X.prog X.w) X.A (f v u) (EP X pins σ Q) X.xe s
noncomputable def UnR(X:Cx)(f:Value->Sem Value)(r:V->Hp->VK->Prop):Prop :=
 ∀(pins:List (Addr×Obj))(s:Shared)(σ:St)(H:Hp)(x:V)(v:Value)(Q:VK),Inv X pins σ H s->RelV x v->r x H Q ->
  wpAny (model X.prog X.w) X.A (f v) (EP X pins σ Q) X.xe s
noncomputable def bI(X:Cx)(f:Value)(r:List V->Hp->VK->Prop):Prop :=
 ∀(pins:List (Addr×Obj))(s:Shared)(σ:St)(H:Hp)(xs:List V)(us:List Value)(Q:VK),Inv X pins σ H s->aQ xs us->r xs H Q ->
  wpAny (model X.prog X.w) X.A (call f us) (EP X pins σ Q) X.xe s
noncomputable def TruR(X:Cx)(r:V->Hp->(Bool->Hp->Prop)->Prop):Prop :=
 ∀(pins:List (Addr×Obj))(s:Shared)(σ:St)(H:Hp)(x:V)(v:Value)(Q:Bool->Hp->Prop),Inv X pins σ H s->RelV x v->r x H Q ->
  wpAny (model X.prog X.w) X.A (truthy v) (TP X pins σ Q) X.xe s
noncomputable def tOp(r:R2)(ta tb:TE):TE:=fun σ H Q=>ta σ H fun x H1=>tb σ H1 fun y H2=>r x y H2 Q
noncomputable def tUn(r:V->Hp->VK->Prop)(ta:TE):TE:=fun σ H Q=>ta σ H fun x H1=>r x H1 Q
noncomputable def rI(C:Int->Int->Prop)(g:Int->Int->V):R2:=fun x y H Q=>∃i j,x=.int i/\y=.int j/\C i j/\Q (g i j) H
noncomputable def tG(g:Int->Int->V):R2:=fun x y H Q=>∃i j,x=.int i/\y=.int j/\Q (g i j) H
noncomputable def rU(g:Int->V):V->Hp->VK->Prop:=fun x H Q=>∃i,x=.int i/\Q (g i) H
section
variable{X:Cx}{a b c:Expr}{ta tb tc:TE}{pos:Pos}
theorem BO(ha:PE X a ta)(hb:PE X b tb){pins:List (Addr×Obj)}{s:Shared}{σ:St}{H:Hp}{R:V->V->Hp->Prop}(I:Inv X pins σ H s)
  (h:ta σ H fun x H1=>tb σ H1 fun y H2=>R x y H2) {Q:Value->Shared->Prop} {f:Value->Value->Sem Value}
  (hf:∀v u s2 x y H2,Inv X pins σ H2 s2->RelV x v->RelV y u->R x y H2->wpAny (model X.prog X.w) X.A (f v u) Q X.xe s2) :
  wpAny (model X.prog X.w) X.A (eval a X.env) (fun v s₁=>wpAny (model X.prog X.w) X.A (eval b X.env) (fun u s₂=>wpAny (model X.prog X.w) X.A (f v u) Q X.xe s₂) X.xe s₁) X.xe s:=by
 refine aj (ha pins s σ H _ I h) fun v s1 hpq=> ?_;obtain⟨x,H1,I1,r1,q1⟩:=hpq;refine aj (hb pins s1 σ H1 _ I1 q1) fun u s2 hpq=> ?_;obtain⟨y,H2,I2,r2,q2⟩:=hpq;exact hf v u s2 x y H2 I2 r1 r2 q2
theorem iD{op:Operator}{r:R2}(ho:dw X (binaryOp op) r)(ha:PE X a ta)(hb:PE X b tb):PE X (.BinOp a op b pos) (tOp r ta tb):=by
 intro pins s σ H Q I h;exact wpAny_BinOp (BO ha hb I h fun v u s2 x y H2 I2 rx ry q=>ho pins s2 σ H2 x y v u Q I2 rx ry q)
theorem ya{op:UnaryOp}{r:V->Hp->VK->Prop}(ho:UnR X (unaryOp op) r)(ha:PE X a ta):PE X (.UnaryOp op a pos) (tUn r ta):=by
 intro pins s σ H Q I h;exact UnaryOp_ (aj (ha pins s σ H _ I h) fun v s1 ⟨x,H1,I1,r1,q1⟩=>ho pins s1 σ H1 x v Q I1 r1 q1)
theorem Cu{f:Value->Value->Sem Value}{C:Int->Int->Prop}{g:Int->Int->Int}
  (rule:∀(i j:Int)(t u:Tok)(s:Shared)(Q:Value->Shared->Prop)(E:Value->Shared->Prop),C i j->Q (.int (g i j) s.toks) {s with toks:=s.toks+1}->wpAny (model X.prog X.w) X.A (f (.int i t) (.int j u)) Q E s) :
  dw X f (rI C fun i j=>.int (g i j)):=by
 intro pins s σ H x y v u Q I rx ry h;obtain⟨i,j,rfl,rfl,hc,q⟩:=h;obtain⟨t,rfl⟩:=rx;obtain⟨t',rfl⟩:=ry;exact rule i j t t' s _ _ hc ⟨.int (g i j),H,I.tok _,⟨_,rfl⟩,q⟩
theorem wr{f:Value->Value->Sem Value}{g:Int->Int->Int}
  (rule:∀(i j:Int)(t u:Tok)(s:Shared)(Q:Value->Shared->Prop)(E:Value->Shared->Prop),Q (.int (g i j) s.toks) {s with toks:=s.toks+1}->wpAny (model X.prog X.w) X.A (f (.int i t) (.int j u)) Q E s) :
  dw X f (tG fun i j=>.int (g i j)):=by
 intro pins s σ H x y v u Q I rx ry h;obtain⟨i,j,rfl,rfl,q⟩:=h;obtain⟨t,rfl⟩:=rx;obtain⟨t',rfl⟩:=ry;exact rule i j t t' s _ _ ⟨.int (g i j),H,I.tok _,⟨_,rfl⟩,q⟩
theorem wu{f:Value->Value->Sem Value}{g:Int->Int->Bool}
  (rule:∀(i j:Int)(t u:Tok)(s:Shared)(Q:Value->Shared->Prop)(E:Value->Shared->Prop),Q (.bool (g i j)) s->wpAny (model X.prog X.w) X.A (f (.int i t) (.int j u)) Q E s) :
  dw X f (tG fun i j=>.bl (g i j)):=by
 intro pins s σ H x y v u Q I rx ry h;obtain⟨i,j,rfl,rfl,q⟩:=h;obtain⟨t,rfl⟩:=rx;obtain⟨t',rfl⟩:=ry;exact rule i j t t' s _ _ ⟨.bl (g i j),H,I,rfl,q⟩
noncomputable def CPow(i j:Int):Prop:=0<=j/\j<=1000000/\i.natAbs<2^64
noncomputable def Bn(i j:Int):Prop:=(-(2^64)<i/\i<2^64)\/(-(2^64)<j/\j<2^64)
theorem Bn.ok{i j:Int}(h:Bn i j):IntMulOk i j:=by
 rcases h with⟨h1,h2⟩|⟨h1,h2⟩
 ·exact .of_left (intBits_le_64 h1 h2)
 ·exact .of_right (intBits_le_64 h1 h2)
theorem oB:dw X (binaryOp .Add) (tG fun i j=>.int (i+j)):=wr fun _ _ _ _ _ _ _ q=>add_int q
theorem AB:dw X (binaryOp .Sub) (tG fun i j=>.int (i-j)):=wr fun _ _ _ _ _ _ _ q=>sub_int q
theorem AE:dw X (binaryOp .Mult) (rI Bn fun i j=>.int (i*j)):=Cu fun _ _ _ _ _ _ _ hc q=>mul_int q hc.ok
theorem AF:dw X (binaryOp .Mod) (rI (fun _ j=>0<j) fun i j=>.int (i%j)):=Cu fun i j _ _ _ _ _ hc q=>by
 have h1:(0:Int)<j:=hc;exact mod_int' (by omega) (by rw[Int.fmod_eq_emod_of_nonneg i (by omega)];exact q)
theorem AC:dw X (binaryOp .LShift) (rI CPow fun i j=>.int (i*2^j.toNat)):=Cu fun _ _ _ _ _ _ _ hc q=>lshift_int_small hc.1 hc.2.1 hc.2.2 q
theorem AI:dw X (binaryOp .BitAnd) (tG fun i j=>.int (Builtin.bitAnd i j)):=wr fun _ _ _ _ _ _ _ q=>and_int q
theorem ye:dw X (binaryOp .BitOr) (tG fun i j=>.int (Builtin.bitOr i j)):=wr fun _ _ _ _ _ _ _ q=>or_int q
theorem unI{f:Value->Sem Value}{g:Int->Int}
  (rule:∀(i:Int)(t:Tok)(s:Shared)(Q:Value->Shared->Prop)(E:Value->Shared->Prop),Q (.int (g i) s.toks) {s with toks:=s.toks+1}->wpAny (model X.prog X.w) X.A (f (.int i t)) Q E s) :
  UnR X f (rU fun i=>.int (g i)):=by
 intro pins s σ H x v Q I rx h;obtain⟨i,rfl,q⟩:=h;obtain⟨t,rfl⟩:=rx;exact rule i t s _ _ ⟨.int (g i),H,I.tok _,⟨_,rfl⟩,q⟩
theorem sN:UnR X (unaryOp .USub) (rU fun i=>.int (-i)):=unI fun _ _ _ _ _ q=>neg_int q
end
noncomputable def zQ:V->V->Bool
 | .non,.non=>true| .non,.int _=>true| .int _,.non=>true| .non,.bl _=>true| .bl _,.non=>true| .non,.str _=>true| .str _,.non=>true
 | .int _,.int _=>true| .bl _,.bl _=>true| .str _,.str _=>true| .byt _,.byt _=>true
 | .int _,.str _=>true| .str _,.int _=>true| .bl _,.str _=>true| .str _,.bl _=>true
 | _,_=>false
noncomputable def rEq:R2:=fun x y H Q=>zQ x y=true/\Q (.bl (decide (x=y))) H
noncomputable def rNe:R2:=fun x y H Q=>zQ x y=true/\Q (.bl (!decide (x=y))) H
theorem pk{i j:Int}:decide (V.int i=V.int j)=(i==j):=by
 rw[FH];simp
theorem uv{i j:Bool}:decide (V.bl i=V.bl j)=(i==j):=by
 rw[FH];simp
theorem pi{i j:Str}:decide (V.str i=V.str j)=(i==j):=by
 rw[FH];simp
theorem pq{i j:Array UInt8}:decide (V.byt i=V.byt j)=(i.toList==j.toList):=by
 rw[FH];cases i;cases j;simp
section
variable{X:Cx}{a b c:Expr}{ta tb tc:TE}{pos:Pos}
theorem aX{pins:List (Addr×Obj)}{σ:St}{H:Hp}{s:Shared}{Q:VK}{k k' :Bool}(I:Inv X pins σ H s)(q:Q (.bl k) H)(e:k=k'):EP X pins σ Q (.bool k') s:=by
 subst e;exact⟨.bl k,H,I,rfl,q⟩
theorem yf:dw X (compareOp .Eq) rEq:=by
 intro pins s σ H x y v u Q I rx ry h;obtain⟨hs,q⟩:=h;cases x with
 | non =>
  cases rx;cases y with
  | non=>cases ry;exact PySem.EqNone.eq_none_none (aX I q (by simp))
  | bl j=>cases ry;exact PySem.EqNone.eq_none_bool (aX I q (by simp))
  | int j=>obtain⟨t',rfl⟩:=ry;exact PySem.EqNone.eq_none_int (aX I q (by simp))
  | str j=>obtain⟨t',rfl⟩:=ry;exact PySem.EqNone.eq_none_str (aX I q (by simp))
  | _=>exact absurd (show false=true from hs) Dy
 | bl i =>
  cases rx;cases y with
  | non=>cases ry;exact PySem.EqNone.eq_bool_none (aX I q (by simp))
  | bl j=>cases ry;exact eq_bool (aX I q uv)
  | str j=>obtain⟨t',rfl⟩:=ry;exact PySem.EqMixed.eq_bool_str (aX I q (by simp))
  | _=>exact absurd (show false=true from hs) Dy
 | int i =>
  obtain⟨t,rfl⟩:=rx;cases y with
  | non=>cases ry;exact PySem.EqNone.eq_int_none (aX I q (by simp))
  | int j=>obtain⟨t',rfl⟩:=ry;exact eq_int (aX I q pk)
  | str j=>obtain⟨t',rfl⟩:=ry;exact PySem.EqMixed.eq_int_str (aX I q (by simp))
  | _=>exact absurd (show false=true from hs) Dy
 | str i =>
  obtain⟨t,rfl⟩:=rx;cases y with
  | non=>cases ry;exact PySem.EqNone.eq_str_none (aX I q (by simp))
  | bl j=>cases ry;exact PySem.EqMixed.eq_str_bool (aX I q (by simp))
  | int j=>obtain⟨t',rfl⟩:=ry;exact PySem.EqMixed.eq_str_int (aX I q (by simp))
  | str j=>obtain⟨t',rfl⟩:=ry;exact eq_str (aX I q pi)
  | _=>exact absurd (show false=true from hs) Dy
 | byt i =>
  obtain⟨t,rfl⟩:=rx;cases y with
  | byt j=>obtain⟨t',rfl⟩:=ry;exact W.eq_bytes (aX I q pq)
  | _=>exact absurd (show false=true from hs) Dy
 | _=>cases y<;>exact absurd (show false=true from hs) Dy
theorem Co:dw X (compareOp .NotEq) rNe:=by
 intro pins s σ H x y v u Q I rx ry h;obtain⟨hs,q⟩:=h;cases x with
 | non =>
  cases rx;cases y with
  | non=>cases ry;exact PySem.EqNone.ne_none_none (aX I q (by simp))
  | bl j=>cases ry;exact PySem.EqNone.ne_none_bool (aX I q (by simp))
  | int j=>obtain⟨t',rfl⟩:=ry;exact PySem.EqNone.ne_none_int (aX I q (by simp))
  | str j=>obtain⟨t',rfl⟩:=ry;exact PySem.EqNone.ne_none_str (aX I q (by simp))
  | _=>exact absurd (show false=true from hs) Dy
 | bl i =>
  cases rx;cases y with
  | non=>cases ry;exact PySem.EqNone.ne_bool_none (aX I q (by simp))
  | bl j=>cases ry;exact ne_bool (aX I q (Ek not uv))
  | str j=>obtain⟨t',rfl⟩:=ry;exact PySem.EqMixed.ne_bool_str (aX I q (by simp))
  | _=>exact absurd (show false=true from hs) Dy
 | int i =>
  obtain⟨t,rfl⟩:=rx;cases y with
  | non=>cases ry;exact PySem.EqNone.ne_int_none (aX I q (by simp))
  | int j=>obtain⟨t',rfl⟩:=ry;exact ne_int (aX I q (Ek not pk))
  | str j=>obtain⟨t',rfl⟩:=ry;exact PySem.EqMixed.ne_int_str (aX I q (by simp))
  | _=>exact absurd (show false=true from hs) Dy
 | str i =>
  obtain⟨t,rfl⟩:=rx;cases y with
  | non=>cases ry;exact PySem.EqNone.ne_str_none (aX I q (by simp))
  | bl j=>cases ry;exact PySem.EqMixed.ne_str_bool (aX I q (by simp))
  | int j=>obtain⟨t',rfl⟩:=ry;exact PySem.EqMixed.ne_str_int (aX I q (by simp))
  | str j=>obtain⟨t',rfl⟩:=ry;exact ne_str (aX I q (Ek not pi))
  | _=>exact absurd (show false=true from hs) Dy
 | byt i =>
  obtain⟨t,rfl⟩:=rx;cases y with
  | byt j=>obtain⟨t',rfl⟩:=ry;exact W.ne_bytes (aX I q (Ek not pq))
  | _=>exact absurd (show false=true from hs) Dy
 | _=>cases y<;>exact absurd (show false=true from hs) Dy
theorem Cp:dw X (compareOp .Lt) (tG fun i j=>.bl (decide (i<j))):=wu fun _ _ _ _ _ _ _ q=>lt_int q
theorem Cq:dw X (compareOp .LtE) (tG fun i j=>.bl (decide (i<=j))):=wu fun _ _ _ _ _ _ _ q=>le_int q
theorem Cr:dw X (compareOp .Gt) (tG fun i j=>.bl (decide (j<i))):=wu fun _ _ _ _ _ _ _ q=>gt_int q
theorem Cs:dw X (compareOp .GtE) (tG fun i j=>.bl (decide (j<=i))):=wu fun _ _ _ _ _ _ _ q=>ge_int q
theorem uC:dw X (compareOp .Is) (fun x y H Q=>y=.non/\Q (.bl (decide (x=.non))) H):=by
 intro pins s σ H x y v u Q I rx ry h;obtain⟨rfl,q⟩:=h;cases ry;refine is_none_gen (aX I q ?_)
 cases x<;>first
  | (cases rx;rfl)
  | (obtain⟨t,rfl⟩:=rx;rfl)
theorem AR(b:Expr){op:CmpOp}(h:op≠.In:=by decide)(h2:op≠.NotIn:=by decide):behindInMarks op b=false:=by
 have e1:(op==CmpOp.In)=false:=by cases op<;>first|rfl|exact absurd rfl h
 have e2:(op==CmpOp.NotIn)=false:=by cases op<;>first|rfl|exact absurd rfl h2
 cases b<;>simp[behindInMarks,e1,e2]
theorem wm{op:CmpOp}{r:R2}(ho:dw X (compareOp op) r)(ha:PE X a ta)(hb:PE X b tb)(hm:behindInMarks op b=false):PE X (.Compare a [op] [b] pos) (tOp r ta tb):=by
 intro pins s σ H Q I h;exact wpAny_Compare1 (BO ha hb I h fun v u s2 x y H2 I2 rx ry q=>ho pins s2 σ H2 x y v u Q I2 rx ry q) hm
noncomputable def CB(t:TE):TT:=fun σ H Q=>t σ H fun x H' =>∃k,x=.bl k/\Q k H'
theorem pL{op:CmpOp}{r:R2}(ho:dw X (compareOp op) r)(ha:PE X a ta)(hb:PE X b tb)(hm:behindInMarks op b=false):PT X (.Compare a [op] [b] pos) (CB (tOp r ta tb)):=by
 intro pins s σ H Q I h
 refine wpAny_isTrue_Compare1 (aj (ha pins s σ H _ I h) fun v s1 ⟨x,H1,I1,r1,q1⟩=>aj (hb pins s1 σ H1 _ I1 q1) fun u s2 ⟨y,H2,I2,r2,q2⟩ =>
  aj (ho pins s2 σ H2 x y v u _ I2 r1 r2 q2) fun c s3 ⟨z,H3,I3,r3,k,e,q3⟩=> ?_) hm
 subst e;cases r3;exact FA ⟨H3,I3,q3⟩
noncomputable def BY(K:W.Frag)(x:V)(H:Hp)(k:Bool):Prop :=
 match x with
 | .non=>k=false
 | .bl b=>k=b
 | .int i=>k=(i !=0)
 | .str y=>y.length<=sizeLine/\k=((y.length:Int) !=0)
 | .byt y=>y.size<=sizeLine/\k=((y.size:Int) !=0)
 | .ref p=>(∃xs,bJ K H p xs/\k= !xs.isEmpty)\/(∃xs,cJ K H p xs/\k= !xs.isEmpty)\/∃kvs,H p=some (.dK kvs)/\k= !kvs.isEmpty
 | _=>False
theorem oJ{κ:Type}{kvs:List (κ×V)}{vs:List (κ×Value)}(r:KV kvs vs):(!vs.isEmpty)= !kvs.isEmpty:=by
 cases r<;>rfl
theorem iS{xs:List V}{its:List Value}(r:aQ xs its):(!its.toArray.isEmpty)= !xs.isEmpty:=by
 cases r<;>simp
theorem fq:(sizeLine:Nat)<2^63:=by rw[Ej];decide
theorem zF:TruR X (fun x H Q=>∃k,BY X.K x H k/\Q k H):=by
 intro pins s σ H x v Q I rx h;obtain⟨k,e,q⟩:=h;have hl:=fq;have hs:sizeLine=16777216:=Ej;cases x with
 | non =>
  cases rx;have e' :k=false:=e;subst e';exact truthy_none ⟨H,I,q⟩
 | bl b =>
  cases rx;have e' :k=b:=e;subst e';exact FA ⟨H,I,q⟩
 | int i =>
  obtain⟨t,rfl⟩:=rx;have e' :k=(i !=0):=e;subst e';exact PySem.P.truthy_int ⟨H,I,q⟩
 | str y =>
  obtain⟨t,rfl⟩:=rx;obtain⟨hy,e'⟩:y.length<=sizeLine/\k=((y.length:Int) !=0):=e;subst e';exact PySem.P.truthy_str (by omega) ⟨H,I.tok _,q⟩
 | byt y =>
  obtain⟨t,rfl⟩:=rx;obtain⟨hy,e'⟩:y.size<=sizeLine/\k=((y.size:Int) !=0):=e;subst e';exact W.truthy_bytes (by omega) ⟨H,I.tok _,q⟩
 | ref p =>
  cases rx;have e' :(∃xs,bJ X.K H p xs/\k= !xs.isEmpty)\/(∃xs,cJ X.K H p xs/\k= !xs.isEmpty)\/∃kvs,H p=some (.dK kvs)/\k= !kvs.isEmpty:=e
  rcases e' with⟨xs,hx,e'⟩|⟨xs,hx,e'⟩|⟨kvs,hx,e'⟩
  ·subst e'
   obtain⟨its,r,pl,hz⟩:=I.list hx;have hlen:=r.length;exact wpAny_truthy_list pl.isList (by simp only[D9];omega) ⟨H,I.tok _,by rw[iS r];exact q⟩
  ·subst e'
   obtain⟨its,r,pl,hz⟩:=I.tuple hx;have hlen:=r.length;exact truthy_tuple pl (by simp only[D9];omega) ⟨H,I.tok _,by rw[iS r];exact q⟩
  ·subst e'
   obtain⟨hz,hS,vs,r,m⟩:kvs.length<=sizeLine/\(p==sysModules)=false/\∃vs,KV kvs vs/\s.heap.DictOf (aU X.prog X.w) p vs:=I.hok p _ hx;have hlen:kvs.length=vs.length:=Paired.length r;exact wpAny_truthy_dict hS m (by omega) ⟨H,I.tok _,by rw[oJ r];exact q⟩
 | _=>exact(show False from e).elim
theorem tK(ha:PE X a ta)(he:∀whole,isTrue a X.env whole=(do let v<-whole;standAt a.pos;holding [v] (truthy v))) :
  PT X a (fun σ H Q=>ta σ H fun x H' =>∃k,BY X.K x H' k/\Q k H'):=by
 intro pins s σ H Q I h;exact isTrue_plain (aj (ha pins s σ H _ I h) fun v s1 ⟨x,H1,I1,r1,q1⟩=>zF pins s1 σ H1 x v Q I1 r1 q1) (he _)
theorem oA:dw X (binaryOp .Add) (fun x y H Q=>∃i j,x=.str i/\y=.str j/\i.length+j.length<=sizeLine/\Q (.str (i++j)) H):=by
 intro pins s σ H x y v u Q I rx ry h;obtain⟨i,j,rfl,rfl,hz,q⟩:=h;obtain⟨t,rfl⟩:=rx;obtain⟨t',rfl⟩:=ry;exact add_str (fun t' tk=>⟨.str (i++j),H,I.tok _,⟨_,rfl⟩,q⟩) hz
theorem vals1{x:V}{us:List Value}(r:aQ [x] us):∃u,us=[u]/\RelV x u:=by
 cases r with
 | cons r1 r2=>cases r2;exact⟨_,rfl,r1⟩
theorem vals2{x y:V}{us:List Value}(r:aQ [x,y] us):∃u w',us=[u,w']/\RelV x u/\RelV y w' :=by
 cases r with
 | cons r1 r2 =>
  cases r2 with
  | cons r3 r4=>cases r4;exact⟨_,_,rfl,r1,r3⟩
theorem rJ(hc:X.calm=true):bI X (.builtin "max") (fun xs H Q=>∃i j,xs=[.int i,.int j]/\Q (.int (if j>i then j else i)) H):=by
 intro pins s σ H xs us Q I r h;obtain⟨i,j,rfl,q⟩:=h;obtain⟨u,w',rfl,⟨t,rfl⟩,⟨t',rfl⟩⟩:=vals2 r;refine max_two_ints (I.ok.hd hc) fun h' tk k=>⟨_,H,I.kept k,?_,q⟩
 by_cases hj:j>i
 ·rw[D3 hj,D3 hj];exact⟨_,rfl⟩
 ·rw[Dz hj,Dz hj];exact⟨_,rfl⟩
theorem rH(hc:X.calm=true):bI X (.builtin "min") (fun xs H Q=>∃i j,xs=[.int i,.int j]/\Q (.int (if j<i then j else i)) H):=by
 intro pins s σ H xs us Q I r h;obtain⟨i,j,rfl,q⟩:=h;obtain⟨u,w',rfl,⟨t,rfl⟩,⟨t',rfl⟩⟩:=vals2 r;refine min_two_ints (I.ok.hd hc) fun h' tk k=>⟨_,H,I.kept k,?_,q⟩
 by_cases hj:j<i
 ·rw[D3 hj,D3 hj];exact⟨_,rfl⟩
 ·rw[Dz hj,Dz hj];exact⟨_,rfl⟩
theorem jn:bI X (.type "int") (fun xs H Q=>(∃i,xs=[.int i]/\Q (.int i) H)\/∃k,xs=[.bl k]/\Q (.int (if k then 1 else 0)) H):=by
 intro pins s σ H xs us Q I r h
 rcases h with⟨i,rfl,q⟩|⟨k,rfl,q⟩
 ·obtain⟨u,rfl,t,rfl⟩:=vals1 r
  exact call_int_int ⟨.int i,H,I,⟨_,rfl⟩,q⟩
 ·obtain⟨u,rfl,r1⟩:=vals1 r
  cases r1;exact call_int_bool ⟨.int (if k then 1 else 0),H,I.tok _,⟨_,rfl⟩,q⟩
end
structure DZ(h:Heap)(x dx C:Addr)(mA:Str->Option Value):Prop where
 obj:h.get? x=some (W.instObj C dx)
 ns:h.Ns1 dx mA
 ne:dx≠x
theorem qk{h:Heap}{dx:Addr}{mA:Str->Option Value}(n:h.Ns1 dx mA):∃od,h.get? dx=some od/\∀name,W.lookIn name od=some (mA name):=by
 obtain⟨o,es,ep,ho,hd,hk,_,hm⟩:=n;refine⟨o,ho,fun name=> ?_⟩;have e:=hm name;unfold nsFind findBy at e;rw[<- Array.find?_toList]at e;unfold W.lookIn;rw[hd];dsimp only
 split
 ·rename_i y q
  rw[q]at e;exact Ek some e
 ·rename_i q
  rw[q]at e;have a:es.toList.any (·.refKey)=false:=by
   rw[List.any_eq_false];intro y hy;obtain⟨z,t,hkey⟩:=hk y (Array.mem_toList_iff.mp hy);simp[DictEntry.refKey,hkey]
  have a' :¬es.toList.any (·.refKey)=true:=by rw[a];exact Dy
  rw[Dz a'];exact Ek some e
theorem DZ.look{h:Heap}{x dx C:Addr}{mA:Str->Option Value}(I:DZ h x dx C mA):∃od,W.InstAt h x (W.instObj C dx) C (some od)/\∀name,W.lookIn name od=some (mA name) :=
 let⟨od,ho,hl⟩:=qk I.ns
 ⟨od,⟨I.obj,rfl,rfl,ho⟩,hl⟩
section
variable{prog:Program}{w:World}{A:Around}{E:Value->Shared->Prop}{s:Shared}{K:W.Frag}{x dx C f:Addr}{mA:Str->Option Value}{name:Str}{v:Value}
end
theorem gk.some_of{v:V}{o:Option Value}(r:gk (some v) o):∃u,o=some u/\RelV v u:=by
 cases o with
 | none=>exact(show False from r).elim
 | some u=>exact⟨u,rfl,r⟩
section
variable{P:Program}{w:World}{H H' :Hp}{h h' :Heap}{a C dx:Addr}{fs fs' :List (Str×V)}
end
structure Cls(K:W.Frag)(C:Addr):Prop where
 pg:W.plainGet K C Str.empty=true
 hd:W.hasDictIn K C=true
 po:W.plainOver K C=true
 sa:W.findIn K (.ref C) "__setattr__"=some (some (.builtin "object.__setattr__"))
theorem Cls.get{K:W.Frag}{C:Addr}(c:Cls K C)(f:Str):W.plainGet K C f=true:=c.pg
section
variable{X:Cx}{pins:List (Addr×Obj)}{σ:St}{H:Hp}{s:Shared}{a C dx:Addr}{fs:List (Str×V)}{f:Str}{v:V}{A:Around}{E:Value->Shared->Prop}
end
section
variable{X:Cx}{o e value:Expr}{f:Str}{pos pos' tpos:Pos}{ta tv:TE}
end
section
variable{X:Cx}{pins:List (Addr×Obj)}{σ:St}{H:Hp}{s:Shared}{A:Around}{E:Value->Shared->Prop}{Q:Value->Shared->Prop}{c:Value}{b:Bool}
end
structure dI(k:Nat)(A:Around):Prop where
 hd:A.handled=none
 dp:A.depth+3*k+5<recursionLimit
 un:A.units+16*k+200<cLine
theorem dI.mono{j k:Nat}{A:Around}(r:dI k A)(h:j<=k):dI j A:=⟨r.hd,by have:=r.dp;omega,by have:=r.un;omega⟩
theorem dI.deeper{k:Nat}{A:Around}(r:dI (k+1) A)(env:Env):dI k (A.deeper env) :=
 ⟨r.hd,by have:=r.dp;show A.depth+1+3*k+5<_;omega,by have:=r.un;show A.units+3+16*k+200<_;omega⟩
theorem dI.depth{k:Nat}{A:Around}(r:dI k A):A.depth<recursionLimit:=by have:=r.dp;omega
theorem dI.units{k:Nat}{A:Around}(r:dI k A):A.units+64<cLine:=by have:=r.un;omega
noncomputable def tNil:TA:=fun _ H Q=>Q [] H
noncomputable def CK(ta:TE)(tr:TA):TA:=fun σ H Q=>ta σ H fun x H1=>tr σ H1 fun xs H2=>Q (x::xs) H2
section
variable{X:Cx}{e:Expr}{es:List Expr}{te:TE}{t:TA}{pos:Pos}
theorem av:PA X [] tNil:=fun _ _ _ _ H Q I h=>Calls.spliced_nil ⟨[],H,I,.nil,h⟩
theorem aT(ha:PE X e te)(hr:PA X es t)(hs:starEach (e::es) X.env=(false,eval e X.env)::starEach es X.env:=by rfl):PA X (e::es) (CK te t):=by
 intro pos pins s σ H Q I h;rw[hs];show wpAny _ _ (spliced ((false,eval e X.env)::backTo pos (starEach es X.env))) _ _ s;refine Calls.spliced_cons (aj (ha pins s σ H _ I h) fun u s1 hpq=> ?_);obtain⟨x,H1,I1,r1,q1⟩:=hpq;exact aj (hr pos pins s1 σ H1 _ I1 q1) fun us s2 ⟨xs,H2,I2,r2,q2⟩=>⟨x::xs,H2,I2,.cons r1 r2,q2⟩
noncomputable def tTup(t:TA):TE:=fun σ H Q=>t σ H fun xs H1=>xs.length<=sizeLine/\∀p,H1 p=none->Q (.ref p) (upd H1 p (.tup xs))
noncomputable def tLst(t:TA):TE:=fun σ H Q=>t σ H fun xs H1=>xs.length<=sizeLine/\∀p,H1 p=none->Q (.ref p) (upd H1 p (.lst xs))
theorem zx{x1}(h:PA X es t):PE X (.Tuple es x1 pos) (tTup t):=by
 intro pins s σ H Q I hq;refine wpAny_Tuple_spliced (aj (h pos pins s σ H _ I hq) fun us s1 ⟨xs,H1,I1,r,z,q⟩=>⟨by rw[<- r.length];exact z,?_⟩);have hf:H1 s1.heap.objs.size=none:=I1.hok.fresh (Dx _);refine⟨.ref s1.heap.objs.size,upd H1 s1.heap.objs.size (.tup xs),I1.laid (t' :=s1.toks) (fun b u e=>Dr _ e) (Dx _) ?_,rfl,q _ hf⟩;exact⟨z,us,r,⟨_,EB _ rfl,rfl,_,rfl,rfl⟩⟩
theorem tf(h:PA X es t):PE X (.List es pos) (tLst t):=by
 intro pins s σ H Q I hq;refine wpAny_List_spliced (aj (h pos pins s σ H _ I hq) fun us s1 ⟨xs,H1,I1,r,z,q⟩=>⟨by rw[<- r.length];exact z,?_⟩);have hf:H1 s1.heap.objs.size=none:=I1.hok.fresh (Dx _);refine⟨.ref s1.heap.objs.size,upd H1 s1.heap.objs.size (.lst xs),I1.laid (t' :=s1.toks) (fun b u e=>Dr _ e) (Dx _) ?_,rfl,q _ hf⟩;exact⟨z,us,0,r,EB _ rfl⟩
end
noncomputable abbrev Sp:=List V->Hp->VK->XK->Prop
noncomputable abbrev rW:=List Env->Hp->Shared->XK->Value->Shared->Prop
structure yP(P:Program)(w:World)(K:W.Frag)(mg:Str->Option Value)(base:Heap)(A:Around)(outer:List Env)(s:Shared)(H:Hp):Prop where
 frames:A.frames=some outer
 mod:Mod K mg base
 bs:∀b o,base.get? b=some o->s.heap.get? b=some o/\H b=none
 bsz:base.objs.size<=s.heap.objs.size
 funs:s.heap.FunFrames base outer
 frf:∀b∈oM outer,H b=none
 hok:dz P w H s.heap
 bare:AllBare s.gens
noncomputable def CE(outer:List Env)(P:Program)(w:World)(H:Hp)(s:Shared)(Q:VK)(u:Value)(s' :Shared):Prop :=
 ∃v H',s'.os=s.os/\AllBare s'.gens/\Un (oM outer) [] H H' s.heap s'.heap/\dz P w H' s'.heap/\RelV v u/\Q v H'
noncomputable def CR(CX:rW)(outer:List Env)(P:Program)(w:World)(H:Hp)(s:Shared)(Q:VK)(E:XK)(r:Result)(s' :Shared):Prop :=
 match r with
 | .ok (.ret u)=>CE outer P w H s Q u s'
 | .ok _=>False
 | .error e=>CX outer H s E e s'
structure bP(P:Program)(w:World)(K:W.Frag)(mg:Str->Option Value)(base:Heap)(CX:rW)(k:Nat)(f:Addr)(fd:FuncData)(ps:List Str)(sp:Sp):Prop where
 len:∀vs H Q E,sp vs H Q E->vs.length=ps.length
 run:∀(A:Around)(outer:List Env)(s:Shared)(H:Hp)(args:Args)(us:List Value)(vs:List V)(Q:VK)(E:XK),dI k A->yP P w K mg base A outer s H->BindsTo s fd args (ps.zip us)->aQ vs us->sp vs H Q E ->
  codeAny (model P w) A (.call (.ref f) args) (CR CX outer P w H s Q E) s
theorem bP.mono{P:Program}{w:World}{K:W.Frag}{mg:Str->Option Value}{base:Heap}{CX:rW}{j k:Nat}{f:Addr}{fd:FuncData}{ps:List Str}{sp:Sp}(F:bP P w K mg base CX j f fd ps sp)(h:j<=k) :
  bP P w K mg base CX k f fd ps sp:=⟨F.len,fun A outer s H args us vs Q E hr=>F.run A outer s H args us vs Q E (hr.mono h)⟩
theorem bP.imp{P:Program}{w:World}{K:W.Frag}{mg:Str->Option Value}{base:Heap}{CX:rW}{k:Nat}{f:Addr}{fd:FuncData}{ps:List Str}{sp sp' :Sp}(F:bP P w K mg base CX k f fd ps sp)
  (h:∀vs H Q E,sp' vs H Q E->sp vs H Q E):bP P w K mg base CX k f fd ps sp' :=
 ⟨fun vs H Q E q=>F.len vs H Q E (h _ _ _ _ q),fun A outer s H args us vs Q E hr he hb hv hs=>F.run A outer s H args us vs Q E hr he hb hv (h _ _ _ _ hs)⟩
section
variable{X:Cx}{pins:List (Addr×Obj)}{σ:St}{H:Hp}{s s' :Shared}
theorem Inv.env0(I:Inv X pins σ H s):yP X.prog X.w X.K X.mg X.base X.A X.stack s H :=
 ⟨I.ok.frames,I.ok.mod,I.bs,Eh I.ok.bsz I.sz,I.stack,I.stkFree,I.hok,I.bare⟩
theorem Inv.after{Q:VK}{u:Value}(I:Inv X pins σ H s)(h:CE X.stack X.prog X.w H s Q u s'):EP X pins σ Q u s' :=by
 obtain⟨v,H',os,bare,un,hok,r,q⟩:=h;obtain⟨hh,g,d,t,os'⟩:=s';obtain rfl:os' =s.os:=os;exact⟨v,H',I.call (h' :=hh) (g' :=g) (d' :=d) (t' :=t) (ch:=[]) un hok bare (fun b z=>absurd z (by simp)),r,q⟩
end
noncomputable def CL(sp:Sp)(dvs:List V)(E:XK)(t:TA):TE:=fun σ H Q=>t σ H fun vs H1=>sp (vs++dvs) H1 Q E
noncomputable def Binds(K:W.Frag)(fd:FuncData)(ps:List Str)(ds:List Value):Prop :=
 ∀(s:Shared)(us:List Value),K.In s.heap->(us++ds).length=ps.length->BindsTo s fd ⟨us,[]⟩ (ps.zip (us++ds))
theorem Binds.all{K:W.Frag}{fd:FuncData}{ps:List Str}(h:∀us:List Value,us.length=ps.length->bindArgs fd ⟨us,[]⟩=pure (ps.zip us)):Binds K fd ps []:=fun s us _ hl=>by
 rw[Ey]at hl ⊢;exact .of_eq (h us hl)
noncomputable def oy(CX:rW)(X:Cx)(E:XK):Prop:=∀(pins:List (Addr×Obj))(σ:St)(H:Hp)(s:Shared)(e:Value)(s' :Shared),Inv X pins σ H s->CX X.stack H s E e s' ->X.xe e s'
section
variable{X:Cx}{CX:rW}{k:Nat}{f C:Addr}{fd:FuncData}{ps:List Str}{sp:Sp}{dvs:List V}{ds:List Value}{E:XK}{x m:Str}{p pos apos:Pos}{e o:Expr}{es:List Expr}{ta:TE}{t:TA}
theorem zZ{pins:List (Addr×Obj)}{σ:St}{H:Hp}{s:Shared}{Q:VK}{us:List Value}{vs:List V}(F:bP X.prog X.w X.K X.mg X.base CX k f fd ps sp)(hr:dI k X.A)(hb:Binds X.K fd ps ds)(hd:aQ dvs ds)(hx:oy CX X E)
  (I:Inv X pins σ H s) (r:aQ vs us) (h:sp (vs++dvs) H Q E):wpAny (model X.prog X.w) X.A (call (.ref f) us) (EP X pins σ Q) X.xe s:=by
 have r2:aQ (vs++dvs) (us++ds):=r.append hd;have hl:(us++ds).length=ps.length:=by rw[<- r2.length];exact F.len _ _ _ _ h
 refine wpAny_call (codeAny_mono (F.run X.A X.stack s H ⟨us,[]⟩ (us++ds) (vs++dvs) Q E hr I.env0 (hb s us I.kIn hl) r2 h) fun r s' hq=> ?_);cases r with
 | error e=>exact hx pins σ H s e s' I hq
 | ok fl =>
  cases fl with
  | ret u=>exact I.after hq
  | next=>exact False.elim hq
  | brk=>exact False.elim hq
  | cont=>exact False.elim hq
theorem kN(F:bP X.prog X.w X.K X.mg X.base CX k f fd ps sp)(hr:dI k X.A)(hg:Gl X x)(hm:X.mg x=some (.ref f))(hk:W.keepIn X.K (.ref f)=true)(hb:Binds X.K fd ps ds)(hd:aQ dvs ds)(hx:oy CX X E)
  (ha:PA X (e::es) t) (hdb:(x==("__debug__":Str))=false:=by decide) (he:starEach (e::es) X.env=(false,eval e X.env)::starEach es X.env:=by rfl) (hpl:(backTo pos (starEach es X.env)).any (·.1)=false:=by rfl) :
  PE X (.Call (.Name x p) (e::es) [] pos) (CL sp dvs E t):=by
 intro pins s σ H Q I h;refine wpAny_Call_Name_kw (pU I hg hm ?_ hdb);refine W.callWith_K (h₀:=X.base) I.ok.mod.kin hk (aj (ha pos pins s σ H _ I h) fun us s1 ⟨vs,H1,I1,r,q⟩=>⟨I1.kIn,?_⟩) he hpl;exact zZ F hr hb hd hx I1 r q
end
section
variable{X:Cx}{CX:rW}{k:Nat}{f C:Addr}{fd:FuncData}{ps ks:List Str}{sp:Sp}{E:XK}{x m:Str}{p pos apos kpos:Pos}{e o:Expr}{es:List Expr}{kws:List Keyword}{te ta:TE}{t tk:TA}{nm:Option Str}
variable{g:List Value->List Value->List Value}{gV:List V->List V->List V}
end
structure aY(N P:List Str)(sc:Scope):Prop where
 kind:sc.kind=.function
 co:sc.isCoroutine=false
 gen:sc.isGenerator=false
 nd:N.Nodup
 pre:N.take P.length=P
 par:∀x∈P,sc.names.lookup x=some .local\/sc.names.lookup x=some .cell
 nofree:∀y∈sc.names,y.2≠.free
theorem jr{kindOf:Str->Option NameKind}{x:Str}:∀{binds:List (Str×Value)}{m:Str->Option Value},(∀v,(x,v)∉binds)->bindL kindOf binds m x=m x
 | [],_,_=>rfl
 | (n,v)::r,m,h=>by
  unfold bindL;rw[jr fun w hw=>h w (Dq _ hw)]
  split
  ·have:x≠n:=by rintro rfl;exact h v Ds
   simp[this]
  ·rfl
theorem ju{kindOf:Str->Option NameKind}{x:Str}:∀{binds:List (Str×Value)}{m:Str->Option Value},(∀v,(x,v)∉binds)->bindC kindOf binds m x=m x
 | [],_,_=>rfl
 | (n,v)::r,m,h=>by
  unfold bindC;rw[ju fun w hw=>h w (Dq _ hw)]
  split
  ·rfl
  ·have:x≠n:=by rintro rfl;exact h v Ds
   simp[this]
theorem jt{kindOf:Str->Option NameKind}{x:Str}{v:Value}:∀{P:List Str}{vs:List Value}{i:Nat}{m:Str->Option Value},P.Nodup->P[i]? =some x->vs[i]? =some v->kindOf x=some .local ->
  bindL kindOf (P.zip vs) m x=some v
 | [],_,_,_,_,h,_,_=>by simp at h
 | _::_,[],_,_,_,_,h,_=>by simp at h
 | p::P,w::vs,0,m,nd,h1,h2,hk=>by
  simp at h1 h2;subst h1;subst h2;show bindL kindOf ((p,w)::P.zip vs) m p=_;unfold bindL;rw[jr fun v hv=>(EO.mp nd).1 (List.of_mem_zip hv).1,D3 hk];simp
 | p::P,w::vs,i+1,m,nd,h1,h2,hk=>by
  show bindL kindOf ((p,w)::P.zip vs) m x=_;unfold bindL;exact jt (i:=i) (EO.mp nd).2 (by simpa using h1) (by simpa using h2) hk
theorem jv{kindOf:Str->Option NameKind}{x:Str}{v:Value}:∀{P:List Str}{vs:List Value}{i:Nat}{m:Str->Option Value},P.Nodup->P[i]? =some x->vs[i]? =some v->kindOf x≠some .local ->
  bindC kindOf (P.zip vs) m x=some v
 | [],_,_,_,_,h,_,_=>by simp at h
 | _::_,[],_,_,_,_,h,_=>by simp at h
 | p::P,w::vs,0,m,nd,h1,h2,hk=>by
  simp at h1 h2;subst h1;subst h2;show bindC kindOf ((p,w)::P.zip vs) m p=_;unfold bindC;rw[ju fun v hv=>(EO.mp nd).1 (List.of_mem_zip hv).1,Dz hk];simp
 | p::P,w::vs,i+1,m,nd,h1,h2,hk=>by
  show bindC kindOf ((p,w)::P.zip vs) m x=_;unfold bindC;exact jv (i:=i) (EO.mp nd).2 (by simpa using h1) (by simpa using h2) hk
noncomputable def start(N:List Str)(vs:List V):St:=vs.map some++List.replicate (N.length-vs.length) none
noncomputable def oT(CX:rW)(P:Program)(w:World)(K:W.Frag)(mg:Str->Option Value)(base:Heap)(N:List Str)(qual:Str)(scope:Scope)(f:Addr)(cd:Value)(A:Around)(outer:List Env)(s:Shared)(H:Hp)(E:XK):Cx where
 prog:=P
 w:=w
 K:=K
 mg:=mg
 base:=base
 A:=A.deeper (envOfC qual scope s.heap.objs.size f cd)
 N:=N
 s₀:=s
 H₀:=H
 env:=envOfC qual scope s.heap.objs.size f cd
 outer:=outer
 stack:=envOfC qual scope s.heap.objs.size f cd::outer
 ex:=[]
 calm:=true
 fn:=fun _=>true
 pn:=[]
 xe:=fun e s' =>wpAny (model P w) (A.deeper (envOfC qual scope s.heap.objs.size f cd)) (leaving (envOfC qual scope s.heap.objs.size f cd) e) (fun _ s'' =>CX outer H s E e s'') (fun e' s'' =>CX outer H s E e' s'') s'
theorem nA{sc:Scope}{n:Nat}{x:Str}(h:sc.names.lookup x=some .cell):∃c,(cellsFrom n sc.names []).lookup x=some c:=by
 have q:=W.cellsFrom_some sc.names n [] (.inl h);exact Option.isSome_iff_exists.mp q
theorem qt{CX:rW}{P:Program}{w:World}{K:W.Frag}{mg:Str->Option Value}{base:Heap}{N ps:List Str}{qual:Str}{scope:Scope}{f:Addr}{cd:Value}{A:Around}{outer:List Env}{s s1:Shared}{H:Hp}{E:XK}{us:List Value}{vs:List V}
  (S:aY N ps scope) (hd:A.handled=none) (e0:yP P w K mg base A outer s H) (hl:vs.length=ps.length) (r:aQ vs us)
  (x:InCallC s s.heap.objs.size (bindL (envOfC qual scope s.heap.objs.size f cd).kindOf (ps.zip us) fun _=>none) (cellsFrom (s.heap.objs.size+1) scope.names []) (bindC (envOfC qual scope s.heap.objs.size f cd).kindOf (ps.zip us) fun _=>none) s1) :
  Inv (oT CX P w K mg base N qual scope f cd A outer s H E) [] (start N vs) H s1:=by
 have hpl:ps.length<=N.length:=by have:=Ek List.length S.pre;rw[FN]at this;omega
 obtain⟨h1,tk,rfl,hk⟩:=x.done;have noA:∀b:Addr,b∉(oT CX P w K mg base N qual scope f cd A outer s H E).ex:=fun b z=>absurd (show b∈([]:List Addr)from z) (by simp)
 refine⟨⟨e0.mod,S.kind,rfl,rfl,Dx _,fun y z c h1 h2=> ?_,fun y hy=> ?_,fun y c _ h=> ?_,fun _=>hd,Around.frames_deeper e0.frames,.inr ⟨rfl,rfl⟩,fun b z=>absurd z (noA b),e0.bs,e0.bsz,fun b _ _=>noA b,fun b z=>absurd z (noA b),e0.funs,e0.frf⟩,
  rfl,e0.bare,Un.kept hk,⟨_,x.toInCall.ns,fun i y v h1 h2 h3=> ?_⟩,fun y c h=>⟨_,x.cell y c h⟩,e0.hok.fresh (Dx _),fun y c h=> ?_,fun p hp=>absurd (show p∈([]:List (Addr×Obj))from hp) (by simp),e0.hok.kept hk,?_⟩
 ·exact name_of_addr x.apart (ER h1) (ER h2)
 ·have hy:scope.names.lookup y=some .cell\/scope.names.lookup y=some .free:=hy
  rcases hy with hy|hy
  ·exact nA hy
  ·exact absurd rfl (S.nofree _ (ER hy))
 ·exact FR (x.above y c (ER h))
 ·have hi:i<vs.length:=by
   unfold start at h2
   by_cases hi:i<vs.length
   ·exact hi
   ·rw[FW (by simpa using hi)]at h2
    rw[List.getElem?_replicate]at h2
    split at h2<;>cases h2
  have ha:vs[i]? =some v:=by
   unfold start at h2;rw[Eo (by simpa using hi),D7]at h2;cases e:vs[i]? with
   | none=>rw[e]at h2;cases h2
   | some a=>rw[e]at h2;cases h2;rfl
  obtain⟨u,hu,rv⟩:=r.get ha;have hp:ps[i]? =some y:=by
   rw[<- S.pre,List.getElem?_take_of_lt (by omega)];exact h1
  have ndP:ps.Nodup:=by rw[<- S.pre];exact S.nd.sublist (List.take_sublist _ _)
  refine⟨u,rv,?_⟩
  rcases S.par y (EE hp)with k|k
  ·exact .inl ⟨k,jt ndP hp hu k⟩
  ·obtain⟨c,e⟩:=nA (n:=s.heap.objs.size+1) k
   refine .inr ⟨.inl k,c,e,?_⟩;have q:=x.cell y c e;rw[jv ndP hp hu (by show scope.names.lookup y≠_;rw[k];decide)]at q;exact q
 ·exact e0.hok.fresh (FR (x.above y c (ER h)))
 ·unfold start
  show _=N.length;rw[EC,Dp,List.length_replicate];omega
theorem C8{CX:rW}{P:Program}{w:World}{K:W.Frag}{mg:Str->Option Value}{base:Heap}{k:Nat}{f:Addr}{name qual:Str}{params:Arguments}{body:List Stmt}{scope:Scope}{dV kV doc pm cdv ct oc:Value}{an od:Option Addr}
  {osl:Array (Option Value)} {N ps:List Str} {sp:Sp} (lk:K.lookup f=some ⟨oc,od,.func (W.fnOf name qual params body scope dV kV doc pm an cdv ct),osl⟩) (hcd:W.codeIn K cdv qual=true) (S:aY N ps scope)
  (len:∀vs H Q E,sp vs H Q E->vs.length=ps.length)
  (hbody:∀(A:Around)(outer:List Env)(s:Shared)(H:Hp)(vs:List V)(Q:VK)(E:XK),dI k (A.deeper (envOfC qual scope s.heap.objs.size f cdv))->sp vs H Q E ->
   ∃t,oz (oT CX P w K mg base N qual scope f cdv A outer s H E) body t/\t {nx:=fun _ H' =>Q .non H',rt:=Q} (start N vs) H) :
  bP P w K mg base CX (k+1) f (W.fnOf name qual params body scope dV kV doc pm an cdv ct) ps sp:=by
 refine⟨len,fun A outer s H args us vs Q E hr e0 hb r hsp=> ?_⟩;have hl:=len _ _ _ _ hsp;have KX:K.In s.heap:=e0.mod.kin.keeps fun b o e=>(e0.bs b o e).1;have lim:s.heap.NoLimit:=e0.mod.nolimit.keeps fun b o e=>(e0.bs b o e).1;have hkind:∀y∈ps.zip us,scope.names.lookup y.1=some .local\/(scope.names.lookup y.1=some .cell/\((cellsFrom (s.heap.objs.size+1) scope.names []).lookup y.1).isSome=true):=fun⟨n,v⟩ hy=>by
  rcases S.par n (List.of_mem_zip hy).1 with q|q
  ·exact .inl q
  ·exact .inr ⟨q,W.cellsFrom_some _ _ _ (.inl q)⟩
 refine codeAny_call_function hr.depth (KX _ _ lk) rfl S.co S.gen rfl (W.codeRec_of KX hcd) (hb _ _ _ _ ?_);refine wpAny_newFunctionEnv_cells S.kind hkind fun env he s1 x=> ?_;subst he;refine⟨lim.keeps x.toInCall.keep,codeAny_func ?_⟩;obtain⟨t,ht,hq⟩:=hbody A outer s H vs Q E (hr.deeper _) hsp;have I:Inv (oT CX P w K mg base N qual scope f cdv A outer s H E) [] (start N vs) H s1:=qt S hr.hd e0 hl r x;refine FB (ht [] s1 (start N vs) H _ I hq) (fun fl s' hs=> ?_) fun e s' hs=>hs
 have fin:∀{σ' :St}{H' :Hp}{v:V}{u:Value},Inv (oT CX P w K mg base N qual scope f cdv A outer s H E) [] σ' H' s' ->RelV v u->Q v H' ->CE outer P w H s Q u s' :=
  fun{σ' H' v u} J rv q=>⟨v,H',J.os,J.bare,J.base,J.hok,rv,q⟩
 cases fl with
 | ret u =>
  obtain⟨v,σ',H',J,rv,q⟩:=hs;exact fin J rv q
 | next =>
  obtain⟨σ',H',J,q⟩:=hs;exact fin (v:=V.non) (u:=Value.none) J rfl q
 | brk =>
  obtain⟨_,_,_,q⟩:=hs;exact False.elim q
 | cont =>
  obtain⟨_,_,_,q⟩:=hs;exact False.elim q
section
variable{X:Cx}{x:Str}{p pos:Pos}{e:Expr}{es:List Expr}{t:TA}{id T:String}{r:List V->Hp->VK->Prop}
noncomputable def tCB(r:List V->Hp->VK->Prop)(t:TA):TE:=fun σ H Q=>t σ H fun vs H1=>r vs H1 Q
theorem fG(hc:bI X (.builtin id) r)(hg:Gl X x)(hm:X.mg x=none)(hv:bootBuiltins x=some (.builtin id))(ha:PA X (e::es) t)(hn:x≠"__name__":=by decide)(hdb:(x==("__debug__":Str))=false:=by decide)
  (he:starEach (e::es) X.env=(false,eval e X.env)::starEach es X.env:=by rfl) (hpl:(backTo pos (starEach es X.env)).any (·.1)=false:=by rfl):PE X (.Call (.Name x p) (e::es) [] pos) (tCB r t):=by
 intro pins s σ H Q I h;refine wpAny_Call_Name_kw (dZ I hg hm hv ?_ hn hdb);exact PyProof.Rows.callWith_builtin1 (aj (ha pos pins s σ H _ I h) fun us s1 ⟨vs,H1,I1,r1,q1⟩=>hc pins s1 σ H1 vs us Q I1 r1 q1) he hpl
theorem fk(hc:bI X (.type T) r)(hg:Gl X x)(hm:X.mg x=none)(hv:bootBuiltins x=some (.type T))(ha:PA X (e::es) t)(hn:x≠"__name__":=by decide)(hdb:(x==("__debug__":Str))=false:=by decide)
  (he:starEach (e::es) X.env=(false,eval e X.env)::starEach es X.env:=by rfl) (hpl:(backTo pos (starEach es X.env)).any (·.1)=false:=by rfl):PE X (.Call (.Name x p) (e::es) [] pos) (tCB r t):=by
 intro pins s σ H Q I h;refine wpAny_Call_Name_kw (dZ I hg hm hv ?_ hn hdb);exact El (aj (ha pos pins s σ H _ I h) fun us s1 ⟨vs,H1,I1,r1,q1⟩=>hc pins s1 σ H1 vs us Q I1 r1 q1) he hpl
end
end L2
namespace HT
open PySem PyProof.Rows
noncomputable def lexLt:List Int->List Int->Bool
 | [],[]=>false
 | [],_::_=>true
 | _::_,[]=>false
 | x::xs,y::ys=>if x=y then lexLt xs ys else decide (x<y)
theorem oG(x y:Int)(xs ys:List Int):lexLt (x::xs) (y::ys)=if x=y then lexLt xs ys else decide (x<y):=rfl
theorem jA:lexLt [] []=false:=rfl
theorem iI(y:Int)(ys:List Int):lexLt [] (y::ys)=true:=rfl
theorem iJ(x:Int)(xs:List Int):lexLt (x::xs) []=false:=rfl
theorem uo(A:Around)(s:Shared)(a:Int)(t:Tok)(c:Int)(u:Tok):∃e,SeqAt.EqAt A s (.int a t) (.int c u) e/\(e=true↔a=c) :=
 ⟨(a==c),SeqAt.EqAt.int_int a t c u,by simp⟩
theorem tF(A:Around)(s:Shared)(a:Int)(t:Tok)(c:Int)(u:Tok)(prog:Program)(w:World)(E:Value->Shared->Prop)(Q:Value->Shared->Prop)(h:Q (.bool (decide (a<c))) s) :
  wpAny (model prog w) A (richCompare .Lt (.int a t) (.int c u)) Q E s :=
 (PyProof.Rows.lt_int h:wpAny (model prog w) A (compareOp .Lt (.int a t) (.int c u)) Q E s)
section
open PySem.SeqAt
open PySem.AutoSeq1 (wpAny_loadPart')
open PySem.MeetsSeq PySem.MeetsSeq2 PySem.MeetsSeq3
theorem i6(l b:Addr)(items items2:Array Value)(n n2:Nat)(dd dd2:Option Addr)(sl sl2:Array (Option Value))(ns ms:List Int)(hi:IntsAre items.toList ns)(hj:IntsAre items2.toList ms) :
  Meets (Builtin.«tuple.__lt__» ⟨[.ref l,.ref b],[]⟩)
   (fun _ R s=>s.heap.get? l=some {cls:=.type "tuple",dict:=dd,data:=.seq items n,slots:=sl}/\s.heap.get? b=some {cls:=.type "tuple",dict:=dd2,data:=.seq items2 n2,slots:=sl2} /\
    R (.ok (.ret (.bool (lexLt ns ms)))) s) :=
 .of_wp fun prog w A R s h=>by
  obtain⟨hp,g,d,tk,os⟩:=s;obtain⟨hl,hb,h⟩:=h;have f2:=AutoSeq1.sub_tuple_tuple;have z1:items.size=ns.length:=by rw[<- hi.length];simp
  have z2:items2.size=ms.length:=by rw[<- hj.length];simp
  wp_walk using Ev hl,Ev hb,wpAny_forIn_list _ (fun aN b s' =>b.1=none/\s' =⟨hp,g,d,tk,os⟩/\∃(vs ws:List Value)(ns' ms' :List Int),aN=vs.zip ws /\
   IntsAre vs ns' /\IntsAre ws ms' /\ns'.length+items2.size=ms'.length+items.size/\R (.ok (.ret (.bool (lexLt ns' ms')))) ⟨hp,g,d,tk,os⟩) _
  case turn =>
   rintro⟨y,x⟩ aN b s' ⟨hb',rfl,vs,ws,ns',ms',hz,hvi,hwi,hlen,hR⟩;cases hvi with
   | nil=>rw[List.zip_nil_left]at hz;cases hz
   | cons a t hvi' =>
    cases hwi with
    | nil=>rw[List.zip_nil_right]at hz;cases hz
    | cons c u hwi' =>
     rw[Fe]at hz
     injection hz with hyx hrest
     injection hyx with hy hx
     subst hy hx;rw[oG]at hR;simp only[ED]at hlen;obtain⟨e,he,hiff⟩:=uo A.in1 ⟨hp,g,d,tk,os⟩ a t c u;refine D6 (he prog w _ _ ?_);cases e with
     | true =>
      rw[D3 (hiff.mp rfl)]at hR
      wp_walk
      exact⟨rfl,rfl,_,_,_,_,hrest,hvi',hwi',by omega,hR⟩
     | false =>
      rw[Dz (fun q=>absurd (hiff.mpr q) Dy)]at hR;have hri:=tF A.in1 ⟨hp,g,d,tk,os⟩ a t c u prog w
      wp_walk using hri
      exact⟨_,rfl,by simpa using hR⟩
  case fin =>
   rintro⟨b1,b2⟩ s' ⟨hb',rfl,vs,ws,ns',ms',hz,hvi,hwi,hlen,hR⟩;simp only at hb';subst hb';have hv:lexLt ns' ms' =decide (items.size<items2.size):=by
    cases hvi with
    | nil =>
     cases hwi with
     | nil =>
      simp only[Fv]at hlen;rw[jA];exact(EV (by omega)).symm
     | cons c u hw =>
      simp only[Fv,ED]at hlen;rw[iI];exact(EX (by omega)).symm
    | cons a t hv =>
     cases hwi with
     | nil =>
      simp only[Fv,ED]at hlen;rw[iJ];exact(EV (by omega)).symm
     | cons c u hw =>
      rw[Fe]at hz;cases hz
   rw[hv]at hR
   wp_walk
   exact⟨_,rfl,by simpa [Builtin.Tuple.tupleCompareSizes]using hR⟩
  case h =>
   exact⟨rfl,rfl,items.toList,items2.toList,ns,ms,rfl,hi,hj,by omega,h⟩
end
section
variable{prog:Program}{w:World}{A:Around}{E:Value->Shared->Prop}{s:Shared}
theorem oF{l b:Addr}{items items2:Array Value}{ns ms:List Int}{Q:Value->Shared->Prop}(hl:IsTup s.heap l items)(hb:IsTup s.heap b items2)(hi:IntsAre items.toList ns)(hj:IntsAre items2.toList ms)
  (hu:A.units<cLine) (h:Q (.bool (lexLt ns ms)) s):wpAny (model prog w) A (compareOp .Lt (.ref l) (.ref b)) Q E s:=by
 obtain⟨⟨cls,dd,data,sl⟩,ho,hc,n,hd⟩:=id hl;obtain⟨⟨cls2,dd2,data2,sl2⟩,ho2,hc2,n2,hd2⟩:=id hb;simp only at hc hd hc2 hd2;subst hc hd hc2 hd2
 exact richCompare_meets_room (op:=.Lt) ⟨_,ho,rfl⟩ ⟨_,ho2,rfl⟩ PySem.F.slot_tuple_lt PySem.F.entry_tuple_lt (PySem.F.args_tuple_lt_2 _ _) (i6 l b items items2 n n2 dd dd2 sl sl2 ns ms hi hj)
  ⟨ho,ho2,show Value.bool (lexLt ns ms)≠Value.notImplemented/\Q (.bool (lexLt ns ms)) s from⟨(fun x=>nomatch x),h⟩⟩ hu
noncomputable def lD(n d:Nat):Option Int->Nat
 | none=>d
 | some v=>if v<0 then(v+(n:Int)).toNat else min v.toNat n
end
end HT
namespace L2
open PySem PySem.Spec PyProof.Rows
noncomputable abbrev TO:=St->Hp->(Option Int->Hp->Prop)->Prop
noncomputable def PO(X:Cx)(e:Option Expr)(t:TO):Prop :=
 ∀(pins:List (Addr×Obj))(s:Shared)(σ:St)(H:Hp)(Q:Option Int->Hp->Prop),Inv X pins σ H s->t σ H Q ->
  wpAny (model X.prog X.w) X.A (evalPart e X.env) (fun u s' =>∃o H',Inv X pins σ H' s' /\IsPart u o/\Q o H') X.xe s
noncomputable def v4:TO:=fun _ H Q=>Q none H
noncomputable def CD(t:TE):TO:=fun σ H Q=>t σ H fun x H1=>∃i,x=.int i/\Q (some i) H1
theorem intsAre_of{ns:List Int}:∀{us:List Value},aQ (ns.map V.int) us->IntsAre us ns:=by
 induction ns with
 | nil=>intro us r;rw[FK]at r;cases r;exact .nil
 | cons n ns ih =>
  intro us r;rw[D2]at r;cases r with
  | cons r1 r2 =>
   obtain⟨t,e⟩:=r1;subst e;exact .cons n t (ih r2)
section
variable{X:Cx}{e:Expr}{te:TE}{lo hi:Option Expr}{tl th:TO}{pos p2:Pos}
theorem wc:PO X none v4:=by
 intro pins s σ H Q I h;rw[evalPart_none];exact ES ⟨none,H,I,.none,h⟩
theorem wb(h:PE X e te):PO X (some e) (CD te):=by
 intro pins s σ H Q I hw;rw[evalPart_some];refine aj (h pins s σ H _ I hw) fun u s1 hpq=> ?_;obtain⟨x,H1,I1,r1,q1⟩:=hpq;obtain⟨i,rfl,q⟩:=q1;obtain⟨t,rfl⟩:=r1;exact⟨some i,H1,I1,.int i t,q⟩
noncomputable def SlR(X:Cx)(r:V->Option Int->Option Int->Hp->VK->Prop):Prop :=
 ∀(pins:List (Addr×Obj))(s:Shared)(σ:St)(H:Hp)(x:V)(v vl vu:Value)(lo hi:Option Int)(sl:Addr)(Q:VK),Inv X pins σ H s->RelV x v->s.heap.IsSliceOf sl vl vu .none->IsPart vl lo->IsPart vu hi->r x lo hi H Q ->
  ∃T id,typeLookup (.type T) "__getitem__"=pure (some (.builtin id))/\s.TypeIs v T/\wpAny (model X.prog X.w) X.A (getItem v (.ref sl)) (EP X pins σ Q) X.xe s
noncomputable def tSl(r:V->Option Int->Option Int->Hp->VK->Prop)(te:TE)(tl th:TO):TE:=fun σ H Q=>te σ H fun x H1=>tl σ H1 fun l H2=>th σ H2 fun u H3=>r x l u H3 Q
theorem tZ{r:V->Option Int->Option Int->Hp->VK->Prop}(hr:SlR X r)(he:PE X e te)(hl:PO X lo tl)(hu:PO X hi th):PE X (.Subscript e (.Slice lo hi none p2) pos) (tSl r te tl th):=by
 intro pins s σ H Q I h;refine Subscript_ (aj (he pins s σ H _ I h) fun v s1 hpq=> ?_);obtain⟨x,H1,I1,r1,q1⟩:=hpq;refine wpAny_Slice (aj (hl pins s1 σ H1 _ I1 q1) fun vl s2 ⟨l,H2,I2,pl,q2⟩=>aj (hu pins s2 σ H2 _ I2 q2) fun vu s3 hpq=> ?_);obtain⟨u,H3,I3,pu,q3⟩:=hpq;rw[evalPart_none];refine ES ?_;have I4:Inv X pins σ H3 {s3 with heap:=s3.heap.push {cls:=.type "slice",data:=.fields #[vl,vu,.none]}}:=I3.kept (t' :=s3.toks) fun b ob q=>Dr _ q;obtain⟨T,id,hT,ht,hg⟩:=hr pins {s3 with heap:=s3.heap.push {cls:=.type "slice",data:=.fields #[vl,vu,.none]}} σ H3 x v vl vu l u s3.heap.objs.size Q I4 r1 (Heap.IsSliceOf.new ..) pl pu q3;show wpAny (model X.prog X.w) X.A (subscriptTail e (.Slice lo hi none p2) v (.ref s3.heap.objs.size)) (EP X pins σ Q) X.xe {s3 with heap:=s3.heap.push {cls:=.type "slice",data:=.fields #[vl,vu,.none]}};exact tail_any (ops:=[.ref s3.heap.objs.size,v]) ht hT hg (by with_unfolding_all rfl)
noncomputable def rF(xs:List V)(lo hi:Option Int):List V:=(xs.drop (HT.lD xs.length 0 lo)).take (HT.lD xs.length xs.length hi-HT.lD xs.length 0 lo)
theorem mv(xs:List V)(lo hi:Option Int):(rF xs lo hi).length<=xs.length:=by
 unfold rF;rw[FN,List.length_drop];omega
noncomputable def zj(K:W.Frag):R2:=fun x y H Q=>∃a b ns ms,x=.ref a/\y=.ref b/\cJ K H a (ns.map V.int)/\cJ K H b (ms.map V.int)/\Q (.bl (HT.lexLt ns ms)) H
theorem uB(hu:X.A.units<cLine):dw X (compareOp .Lt) (zj X.K):=by
 intro pins s σ H x y v u Q I rx ry h;obtain⟨a,b,ns,ms,rfl,rfl,ha,hb,q⟩:=h;cases rx;cases ry;obtain⟨its,r1,p1,_⟩:=I.tuple ha;obtain⟨its2,r2,p2,_⟩:=I.tuple hb;have i1:IntsAre its.toArray.toList ns:=intsAre_of r1;have i2:IntsAre its2.toArray.toList ms:=intsAre_of r2;exact HT.oF p1 p2 i1 i2 hu ⟨.bl (HT.lexLt ns ms),H,I,rfl,q⟩
end
noncomputable def xQ(n:Nat)(i:Int):Option Nat:=if 0<=i then(if i<n then some i.toNat else none)else if -(n:Int)<=i then some (i+n).toNat else none
noncomputable def cf{α:Type}(xs:List α)(i:Int):Option α:=(xQ xs.length i).bind fun j=>xs[j]?
theorem xP{n:Nat}{i:Int}{j:Nat}(h:xQ n i=some j):seqIndex? i n=some j/\j<n/\ -(n:Int)<=i/\i<n:=by
 unfold xQ at h
 by_cases h0:0<=i
 ·rw[D3 h0]at h
  by_cases h1:i<n
  ·rw[D3 h1]at h
   have e:i.toNat=j:=EJ h;exact⟨by rw[seqIndex_of h0 h1,e],by omega,by omega,h1⟩
  ·rw[Dz h1]at h;cases h
 ·rw[Dz h0]at h
  by_cases h1: -(n:Int)<=i
  ·rw[D3 h1]at h
   have e:(i+n).toNat=j:=EJ h;exact⟨by rw[seqIndex_neg (by omega) h1,e],by omega,h1,by omega⟩
  ·rw[Dz h1]at h;cases h
theorem kx{α:Type}{xs:List α}{i:Int}{v:α}(h:cf xs i=some v):∃j,seqIndex? i xs.length=some j/\xs[j]? =some v/\j<xs.length/\ -(xs.length:Int)<=i/\i<xs.length:=by
 unfold cf at h;cases e:xQ xs.length i with
 | none=>rw[e]at h;cases h
 | some j =>
  rw[e]at h;obtain⟨h1,h2,h3,h4⟩:=xP e;exact⟨j,h1,h,h2,h3,h4⟩
theorem bE{α:Type}{xs:List α}{j:Nat}{v:α}(h:xs[j]? =some v):cf xs (j:Int)=some v:=by
 have hj:j<xs.length:=(D1.mp h).1;have e:xQ xs.length (j:Int)=some j:=by
  unfold xQ;rw[D3 (by omega),D3 (by omega)];simp
 unfold cf;rw[e];exact h
noncomputable def qA(b:Expr):Prop:=∀o i,subscripted b false o i=operate [o,i] (getItem o i)
noncomputable def Di(X:Cx)(r:R2):Prop :=
 ∀(value slice:Expr)(pins:List (Addr×Obj))(s:Shared)(σ:St)(H:Hp)(x y:V)(v u:Value)(Q:VK),Inv X pins σ H s->RelV x v->RelV y u->r x y H Q ->
  subscripted slice false v u=operate [v,u] (getItem v u)->wpAny (model X.prog X.w) X.A (subscriptTail value slice v u) (EP X pins σ Q) X.xe s
noncomputable def MtR(X:Cx)(id:String)(r:V->List V->Hp->VK->Prop):Prop :=
 ∀(pins:List (Addr×Obj))(s:Shared)(σ:St)(H:Hp)(x:V)(xs:List V)(v:Value)(us:List Value)(Q:VK),Inv X pins σ H s->RelV x v->aQ xs us->r x xs H Q ->
  wpAny (model X.prog X.w) X.A (call (.builtin id) (v::us)) (EP X pins σ Q) X.xe s
section
variable{X:Cx}{a b:Expr}{ta tb:TE}{pos:Pos}
theorem tm{r:R2}(hr:Di X r)(ha:PE X a ta)(hb:PE X b tb)(hs:qA b):PE X (.Subscript a b pos) (tOp r ta tb):=by
 intro pins s σ H Q I h;exact Subscript_ (BO ha hb I h fun v u s2 x y H2 I2 rx ry q=>hr a b pins s2 σ H2 x y v u Q I2 rx ry q (hs _ _))
noncomputable def rIxL(K:W.Frag):R2:=fun x y H Q=>∃p xs i v,x=.ref p/\y=.int i/\bJ K H p xs/\cf xs i=some v/\Q v H
noncomputable def rIxT(K:W.Frag):R2:=fun x y H Q=>∃p xs i v,x=.ref p/\y=.int i/\cJ K H p xs/\cf xs i=some v/\Q v H
noncomputable def rIxS:R2:=fun x y H Q=>∃z i c,x=.str z/\y=.int i/\z.length<=sizeLine/\cf z.cps.toList i=some c/\Q (.str ⟨#[c]⟩) H
theorem fK:Di X (rIxL X.K):=by
 intro value slice pins s σ H x y v u Q I rx ry h hs;obtain⟨p,xs,i,z,rfl,rfl,hq,he,q⟩:=h;cases rx;obtain⟨t,rfl⟩:=ry;obtain⟨its,r,pl,hz⟩:=I.list hq;obtain⟨j,h1,h2,h3,h4,h5⟩:=kx he;obtain⟨w,ew,rw'⟩:=r.get h2;have hl:=r.length;have hn:=fq;have fin:EP X pins σ Q w s:=⟨z,H,I,rw',q⟩
 by_cases h0:0<=i
 ·have hj:i.toNat=j:=by
   rw[seqIndex_of h0 h5]at h1;exact EJ h1
  exact item_listR pl.isList h0 (by omega) (by rw[hj];simpa using ew) fin hs
 ·have hj:(i+(its.toArray.size:Int)).toNat=j:=by
   rw[seqIndex_neg (by omega) h4]at h1;rw[D9,<-hl];exact EJ h1
  exact subscriptTail_builtinR (x:=w) pl.isList.typeIs slot_list_getitem.lookup
   (wpAny_getItem_list_neg (Q:=fun r s' =>r=w/\EP X pins σ Q r s') pl.isList (by omega) (by rw[D9]<;>omega) (by omega) (by rw[hj];simpa using ew) ⟨rfl,fin⟩) hs
theorem uZ:Di X (rIxT X.K):=by
 intro value slice pins s σ H x y v u Q I rx ry h hs;obtain⟨p,xs,i,z,rfl,rfl,hq,he,q⟩:=h;cases rx;obtain⟨t,rfl⟩:=ry;obtain⟨its,r,pl,hz⟩:=I.tuple hq;obtain⟨j,h1,h2,h3,h4,h5⟩:=kx he;obtain⟨w,ew,rw'⟩:=r.get h2;have hl:=r.length;have hn:=fq;have fin:EP X pins σ Q w s:=⟨z,H,I,rw',q⟩
 exact subscriptTail_builtinR (x:=w) pl.typeIs slot_tuple_getitem.lookup
  (getItem_tuple (j:=j) (Q:=fun r s' =>r=w/\EP X pins σ Q r s') pl (by omega) (by omega) (by rw[D9,<-hl];exact h1) (by simpa using ew) ⟨rfl,fin⟩) hs
theorem Ag:Di X rIxS:=by
 intro value slice pins s σ H x y v u Q I rx ry h hs;obtain⟨z,i,c,rfl,rfl,hz,he,q⟩:=h;obtain⟨t,rfl⟩:=rx;obtain⟨t',rfl⟩:=ry;obtain⟨j,h1,h2,h3,h4,h5⟩:=kx he;have hl:z.cps.toList.length=z.length:=by simp[Str.length]
 rw[hl]at h1 h4 h5;have hn:=fq
 exact tail_any (typeIs_str s z t) slot_str_getitem.lookup (getItem_str (c:=c) (by
  have e1:decide (i< -(2^63:Int))=false:=EV (by omega);have e2:decide (i ≥ 2^63)=false:=EV (by omega);rw[e1,e2,Bool.or_false]) (by rw[h1];simpa using h2) ⟨.str ⟨#[c]⟩,H,I.tok _,⟨_,rfl⟩,q⟩) hs
theorem Inv.lst{pins:List (Addr×Obj)}{σ:St}{H:Hp}{s:Shared}{p:Addr}{xs:List V}(I:Inv X pins σ H s)(h:H p=some (.lst xs)) :
  ∃(its:List Value)(n:Nat),aQ xs its/\s.heap.get? p=some {cls:=.type "list",data:=.seq its.toArray n}/\xs.length<=sizeLine:=by
 obtain⟨z,its,n,r,e⟩:=I.hok p _ h;exact⟨its,n,r,e,z⟩
theorem kH(lo hi:Option Int)(n:Nat):(sliceBounds lo hi none n).1=((HT.lD n 0 lo:Nat):Int)/\(sliceBounds lo hi none n).2.1=((HT.lD n n hi:Nat):Int)/\(sliceBounds lo hi none n).2.2=1:=by
 refine⟨?_,?_,rfl⟩
 ·cases lo with
  | none=>simp[sliceBounds,HT.lD]
  | some i =>
   simp only[sliceBounds,HT.lD,Option.getD_none,show(1:Int)>0 by decide,if_true]
   by_cases h:i<0
   ·simp only[h,if_true]<;>omega
   ·simp only[h,if_false]<;>omega
 ·cases hi with
  | none=>simp[sliceBounds,HT.lD]
  | some i =>
   simp only[sliceBounds,HT.lD,Option.getD_none,show(1:Int)>0 by decide,if_true]
   by_cases h:i<0
   ·simp only[h,if_true]<;>omega
   ·simp only[h,if_false]<;>omega
theorem i7(its:List Value)(lo hi:Option Int):slicePick its.toArray lo hi none=((its.drop (HT.lD its.length 0 lo)).take (HT.lD its.length its.length hi-HT.lD its.length 0 lo)).toArray:=by
 obtain⟨h1,h2,h3⟩:=kH lo hi its.toArray.size;unfold slicePick;rw[h1,h2,h3];simp only[sliceRange_one,pick_run,D9]<;>rfl
noncomputable def rSlL(K:W.Frag):V->Option Int->Option Int->Hp->VK->Prop:=fun x lo hi H Q=>∃a xs,x=.ref a/\bJ K H a xs/\∀p,H p=none->Q (.ref p) (upd H p (.lst (rF xs lo hi)))
theorem wB:SlR X (rSlL X.K):=by
 intro pins s σ H x v vl vu lo hi sl Q I rx hs pl pu h;obtain⟨a,xs,rfl,hx,q⟩:=h;cases rx;obtain⟨its,r,ht,hz⟩:=I.list hx;have hlen:=r.length;refine⟨"list",_,slot_list_getitem.lookup,ht.isList.typeIs,?_⟩;refine wpAny_getItem_list_slice ht.isList hs pl pu .none (by simp) ?_ (by rw[D9]<;>omega);rw[i7,<-hlen];refine⟨.ref s.heap.objs.size,_,I.laid (t' :=s.toks) (o:=.lst (rF xs lo hi)) (fun b ob q=>Dr _ q) (Dx _) ?_,rfl,q _ (I.hok.fresh (Dx _))⟩;exact⟨Eh (mv xs lo hi) hz,_,0,(r.drop (HT.lD xs.length 0 lo)).take (HT.lD xs.length xs.length hi-HT.lD xs.length 0 lo),EB _ rfl⟩
noncomputable def eD:V->Bool
 | .non=>true
 | .bl _=>true
 | .int _=>true
 | .str _=>true
 | _=>false
noncomputable def sB:V->V->Bool
 | .non,.non=>true
 | .bl a,.bl b=>a==b
 | .bl a,.int b=>(if a then 1 else 0)==b
 | .int a,.bl b=>a==(if b then 1 else 0)
 | .int a,.int b=>a==b
 | .str a,.str b=>a==b
 | _,_=>false
theorem A8{A:Around}{s:Shared}{y x:V}{u v:Value}(ry:RelV y u)(rx:RelV x v)(fy:eD y=true)(fx:eD x=true):SeqAt.EqAt A s u v (sB y x):=by
 cases y with
 | non =>
  cases ry;cases x with
  | non=>cases rx;exact SeqAt.EqAt.same _
  | bl b=>cases rx;exact SeqAt.EqAt.none_bool b
  | int b=>obtain⟨t,rfl⟩:=rx;exact SeqAt.EqAt.none_int b t
  | str b=>obtain⟨t,rfl⟩:=rx;exact SeqAt.EqAt.none_str b t
  | _=>exact absurd (show false=true from fx) Dy
 | bl a =>
  cases ry;cases x with
  | non=>cases rx;exact SeqAt.EqAt.bool_none a
  | bl b=>cases rx;exact SeqAt.EqAt.bool_bool a b
  | int b=>obtain⟨t,rfl⟩:=rx;exact SeqAt.EqAt.bool_int a b t
  | str b=>obtain⟨t,rfl⟩:=rx;exact SeqAt.EqAt.bool_str a b t
  | _=>exact absurd (show false=true from fx) Dy
 | int a =>
  obtain⟨t',rfl⟩:=ry;cases x with
  | non=>cases rx;exact SeqAt.EqAt.int_none a t'
  | bl b=>cases rx;exact SeqAt.EqAt.int_bool a t' b
  | int b=>obtain⟨t,rfl⟩:=rx;exact SeqAt.EqAt.int_int a t' b t
  | str b=>obtain⟨t,rfl⟩:=rx;exact SeqAt.EqAt.int_str a t' b t
  | _=>exact absurd (show false=true from fx) Dy
 | str a =>
  obtain⟨t',rfl⟩:=ry;cases x with
  | non=>cases rx;exact SeqAt.EqAt.str_none a t'
  | bl b=>cases rx;exact SeqAt.EqAt.str_bool a t' b
  | int b=>obtain⟨t,rfl⟩:=rx;exact SeqAt.EqAt.str_int a t' b t
  | str b=>obtain⟨t,rfl⟩:=rx;exact SeqAt.EqAt.str_str a t' b t
  | _=>exact absurd (show false=true from fx) Dy
 | _=>exact absurd (show false=true from fy) Dy
noncomputable def xa(x:V)(u:Value):Bool:=match u with
 | .none=>sB .non x
 | .bool b=>sB (.bl b) x
 | .int i _=>sB (.int i) x
 | .str z _=>sB (.str z) x
 | _=>false
theorem um{x y:V}{u:Value}(r:RelV y u)(f:eD y=true):xa x u=sB y x:=by
 cases y with
 | non=>cases r;rfl
 | bl b=>cases r;rfl
 | int i=>obtain⟨t,rfl⟩:=r;rfl
 | str z=>obtain⟨t,rfl⟩:=r;rfl
 | _=>exact absurd (show false=true from f) Dy
theorem kz{x:V}:∀{xs:List V}{us:List Value},aQ xs us->xs.all eD=true->us.any (xa x)=xs.any fun y=>sB y x
 | _,_,.nil,_=>rfl
 | y::xs,u::us,.cons r t,f=>by
  rw[Fc,Du]at f;rw[Fb,Fb,um r f.1,kz t f.2]
theorem iG{A:Around}{s:Shared}{x:V}{v:Value}(rx:RelV x v)(fx:eD x=true):∀{xs:List V}{us:List Value},aQ xs us->xs.all eD=true->∀u∈us,SeqAt.EqAt A s u v (xa x u)
 | _,_,.nil,_=>fun u hu=>by cases hu
 | y::xs,u::us,.cons r t,f=>fun u' hu=>by
  rw[Fc,Du]at f
  rcases D8.mp hu with rfl|hu
  ·rw[um r f.1];exact A8 r rx f.1 fx
  ·exact iG rx fx t f.2 u' hu
noncomputable def inV(x:V)(xs:List V):Bool:=xs.any fun y=>sB y x
noncomputable def rIn(K:W.Frag)(neg:Bool):R2:=fun x y H Q=>∃p xs,y=.ref p/\(bJ K H p xs\/cJ K H p xs)/\eD x=true/\xs.all eD=true/\Q (.bl (if neg then !inV x xs else inV x xs)) H
theorem kO:dw X (compareOp .NotIn) (rIn X.K true):=by
 intro pins s σ H x y v u Q I rx ry h;obtain⟨p,xs,rfl,hq,fx,fs,q⟩:=h;cases ry
 rcases hq with hq|hq
 ·obtain⟨its,r,pl,hz⟩:=I.list hq
  refine SeqAt.notIn_listAt (xa x) pl.isList (fun w hw=>iG rx fx r fs w (by simpa using hw)) ⟨.bl _,H,I,rfl,?_⟩;rw[show its.toArray.any (xa x)=its.any (xa x)by simp,kz r fs];exact q
 ·obtain⟨its,r,pl,hz⟩:=I.tuple hq
  refine SeqAt.notIn_tupleAt (xa x) pl (fun w hw=>iG rx fx r fs w (by simpa using hw)) ⟨.bl _,H,I,rfl,?_⟩;rw[show its.toArray.any (xa x)=its.any (xa x)by simp,kz r fs];exact q
theorem dH:bI X (.builtin "len") (fun xs H Q=>∃p ys,xs=[.ref p]/\(bJ X.K H p ys\/cJ X.K H p ys)/\Q (.int ys.length) H):=by
 intro pins s σ H xs us Q I r h;obtain⟨p,ys,rfl,hq,q⟩:=h;obtain⟨u,rfl,rx⟩:=vals1 r;cases rx;have hn:=fq
 rcases hq with hq|hq
 ·obtain⟨its,r',pl,hz⟩:=I.list hq
  have hlen:=r'.length;exact Calls.call_len_list pl.isList (by simp only[D9]<;>omega) ⟨.int ys.length,H,I.tok _,⟨s.toks+1,by rw[D9,hlen]⟩,q⟩
 ·obtain⟨its,r',pl,hz⟩:=I.tuple hq
  have hlen:=r'.length;exact len_tuple pl (by simp only[D9]<;>omega) ⟨.int ys.length,H,I.tok _,⟨s.toks+1,by rw[D9,hlen]⟩,q⟩
theorem kr:bI X (.builtin "len") (fun xs H Q=>∃z,xs=[.str z]/\z.length<=sizeLine/\Q (.int z.length) H):=by
 intro pins s σ H xs us Q I r h;obtain⟨z,rfl,hz,q⟩:=h;obtain⟨u,rfl,t,rfl⟩:=vals1 r;have hn:=fq;exact len_str (by omega) ⟨.int z.length,H,I.tok _,⟨_,rfl⟩,q⟩
theorem kq:bI X (.type "list") (fun xs H Q=>∃p ys,xs=[.ref p]/\(bJ X.K H p ys\/cJ X.K H p ys)/\∀l,H l=none->Q (.ref l) (upd H l (.lst ys))):=by
 intro pins s σ H xs us Q I r h;obtain⟨p,ys,rfl,hq,q⟩:=h;obtain⟨u,rfl,rx⟩:=vals1 r;cases rx
 have fin:∀(its:List Value),aQ ys its->ys.length<=sizeLine->∀(h' :Heap)(c' :Nat),(∀b o',s.heap.get? b=some o' ->h'.get? b=some o') ->
   h'.get? s.heap.objs.size=some {cls:=.type "list",dict:=none,data:=.seq its.toArray c',slots:= #[]}->EP X pins σ Q (.ref s.heap.objs.size) {s with heap:=h'}:=fun its r' hz h' c' kp e =>
  ⟨.ref s.heap.objs.size,_,I.laid (t' :=s.toks) kp (Dx _) (show ar X.prog X.w _ h' _ (.lst ys)from⟨hz,its,c',r',e⟩),rfl,q _ (I.hok.fresh (Dx _))⟩
 rcases hq with hq|hq
 ·obtain⟨its,r',pl,hz⟩:=I.list hq
  have hlen:=r'.length;obtain⟨o,ho,hc,n,hd⟩:=pl.isList;exact call_list_seq p (.inl rfl) ho hc hd (fun h' c' kp e=>fin its r' hz h' c' kp e) (by simp only[D9]<;>omega)
 ·obtain⟨its,r',pl,hz⟩:=I.tuple hq
  have hlen:=r'.length;obtain⟨o,ho,hc,n,hd⟩:=pl;exact call_list_seq p (.inr rfl) ho hc hd (fun h' c' kp e=>fin its r' hz h' c' kp e) (by simp only[D9]<;>omega)
theorem jF:bI X (.type "tuple") (fun xs H Q=>∃p ys,xs=[.ref p]/\((bJ X.K H p ys/\∀l,H l=none->Q (.ref l) (upd H l (.tup ys)))\/(cJ X.K H p ys/\Q (.ref p) H))):=by
 intro pins s σ H xs us Q I r h;obtain⟨p,ys,rfl,h⟩:=h;obtain⟨u,rfl,rx⟩:=vals1 r;cases rx
 rcases h with⟨hq,q⟩|⟨hq,q⟩
 ·obtain⟨its,r',pl,hz⟩:=I.list hq
  have hlen:=r'.length;refine call_tuple_list pl.isList (fun h' kp=> ?_) (by simp only[D9]<;>omega);have I1:Inv X pins σ H {s with heap:=h'}:=I.kept (t' :=s.toks) kp
  have I2:Inv X pins σ (upd H h'.objs.size (.tup ys)) {s with heap:=h'.push {cls:=.type "tuple",data:=.seq its.toArray}} :=
   I1.laid (t' :=s.toks) (fun b o e=>Dr _ e) (Dx _) (show ar X.prog X.w _ _ _ (.tup ys)from⟨hz,its,r',gF.new _ _⟩)
  exact⟨.ref h'.objs.size,_,I2,rfl,q _ (I1.hok.fresh (Dx _))⟩
 ·obtain⟨its,r',pl,hz⟩:=I.tuple hq
  exact call_tuple_same pl ⟨.ref p,H,I,rfl,q⟩
noncomputable def tyV(K:W.Frag)(T:String)(x:V)(H:Hp):Prop:=match x with
 | .str _=>T="str"
 | .int _=>T="int"
 | .ref p=>(T="list"/\∃xs,bJ K H p xs)\/(T="tuple"/\∃xs,cJ K H p xs) \/
   (T="dict"/\((∃kvs,H p=some (.dK kvs))\/∃kvs,H p=some (.dT kvs)))\/(T="set"/\∃S n,H p=some (.set S n))
 | _=>False
theorem sO{pins:List (Addr×Obj)}{σ:St}{H:Hp}{s:Shared}{T:String}{x:V}{v:Value}(I:Inv X pins σ H s)(r:RelV x v)(ty:tyV X.K T x H) :
  s.TypeIs v T/\∀a,v=.ref a->∃ob,s.heap.get? a=some ob/\ob.dict=none:=by
 cases x with
 | str z =>
  obtain⟨t,rfl⟩:=r;cases(show T="str" from ty);exact⟨typeIs_str s z t,fun _ e=>nomatch e⟩
 | int i =>
  obtain⟨t,rfl⟩:=r;cases(show T="int" from ty);exact⟨typeIs_int s i t,fun _ e=>nomatch e⟩
 | ref p =>
  cases r
  rcases ty with⟨rfl,xs,hq⟩|⟨rfl,xs,hq⟩|⟨rfl,hk⟩|⟨rfl,S,n,hk⟩
  ·obtain⟨its,_,pl,_⟩:=I.list hq
   refine⟨pl.isList.typeIs,fun a e=> ?_⟩;cases e;obtain⟨o,n,e,c,hd,_⟩:=pl;exact⟨o,e,hd⟩
  ·obtain⟨o,e1,e2,e3⟩:=I.tupleD hq
   refine⟨⟨o,e1,e2⟩,fun a e=> ?_⟩;cases e;exact⟨o,e1,e3⟩
  ·have z:∃o,s.heap.get? p=some o/\o.ExactDict:=by
    rcases hk with⟨kvs,hk⟩|⟨kvs,hk⟩
    ·obtain⟨_,_,_,_,o,_,_,e,ex,_⟩:=I.hok p _ hk
     exact⟨o,e,ex⟩
    ·obtain⟨_,_,_,_,o,_,_,e,ex,_⟩:=I.hok p _ hk
     exact⟨o,e,ex⟩
   obtain⟨o,e,ex⟩:=z;refine⟨⟨o,e,ex.1⟩,fun a e2=> ?_⟩;cases e2;exact⟨o,e,ex.2.1⟩
  ·obtain⟨o,_,_,_,e,ex,_⟩:=I.hok p _ hk
   refine⟨⟨o,e,ex.1⟩,fun a e2=> ?_⟩;cases e2;exact⟨o,e,ex.2.1⟩
 | _=>exact False.elim ty
noncomputable def tBM0(K:W.Frag)(T:String)(r:V->List V->Hp->VK->Prop)(to:TE):TE:=fun σ H Q=>to σ H fun x H1=>tyV K T x H1/\r x [] H1 Q
noncomputable def tBM(K:W.Frag)(T:String)(r:V->List V->Hp->VK->Prop)(to:TE)(t:TA):TE:=fun σ H Q=>to σ H fun x H1=>tyV K T x H1/\t σ H1 fun xs H2=>r x xs H2 Q
variable{o e:Expr}{es:List Expr}{to:TE}{t:TA}{name:Str}{apos cpos:Pos}{T id:String}{r:V->List V->Hp->VK->Prop}
theorem tw(pa:PlainAttrs T)(slot:Slot T name id)(hty:typeOf (.builtin id)=pure (.type "method_descriptor"))(hm:MtR X id r)(ho:PE X o to)
  (hbase:attributeBase o name X.env (eval o X.env)=eval o X.env:=by rfl) (hline:(apos.endLine==cpos.line)=true:=by rfl):PE X (.Call (.Attribute o name apos) [] [] cpos) (tBM0 X.K T r to):=by
 intro pins s σ H Q I h;refine wpAny_Call_method0_late hbase hline (aj (ho pins s σ H _ I h) fun v s1 hpq=> ?_);obtain⟨x,H1,I1,r1,ty,q1⟩:=hpq;obtain⟨h1,h2⟩:=sO I1 r1 ty;exact⟨T,id,pa,slot,hty,h1,h2,Ft rfl (PySem.evalArgs_none (hm pins s1 σ H1 x [] v [] Q I1 r1 .nil q1))⟩
theorem yc(pa:PlainAttrs T)(slot:Slot T name id)(hty:typeOf (.builtin id)=pure (.type "method_descriptor"))(hm:MtR X id r)(ho:PE X o to)(ha:PA X (e::es) t)
  (hbase:attributeBase o name X.env (eval o X.env)=eval o X.env:=by rfl)
  (hfew:((backTo cpos (starEach (e::es) X.env)).all (fun x=> !x.1)&&(backToKw cpos (keywordEach [] X.env)).all (fun x=>x.1.isSome)
   && decide ((e::es).length+([]:List Keyword).length+(if([]:List Keyword).isEmpty then 0 else 1)<30))=true:=by rfl)
  (hline:(apos.endLine==cpos.line)=true:=by rfl) (hs:starEach (e::es) X.env=(false,eval e X.env)::starEach es X.env:=by rfl) (hplain:(backTo cpos (starEach es X.env)).any (·.1)=false:=by rfl) :
  PE X (.Call (.Attribute o name apos) (e::es) [] cpos) (tBM X.K T r to t):=by
 intro pins s σ H Q I h;refine wpAny_Call_method_late hbase hfew hline rfl (aj (ho pins s σ H _ I h) fun v s1 hpq=> ?_);obtain⟨x,H1,I1,r1,ty,q1⟩:=hpq;obtain⟨h1,h2⟩:=sO I1 r1 ty;refine⟨T,id,pa,slot,hty,h1,h2,?_⟩;have hA:=ha cpos pins s1 σ H1 _ I1 q1;rw[hs]at hA ⊢;refine Ft (by show(false||(backTo cpos (starEach es X.env)).any (·.1))=false;rw[hplain]<;>rfl) (Calls.evalArgs_plain ?_);exact aj hA fun us s2 ⟨vs,H2,I2,r2,q2⟩=>hm pins s2 σ H2 x vs v us Q I2 r1 r2 q2
end
noncomputable def MtM(X:Cx)(id:String)(r:V->List V->Hp->VK->Prop):Prop :=
 ∀(pins:List (Addr×Obj))(s:Shared)(σ:St)(H:Hp)(x:V)(xs:List V)(v:Value)(us:List Value)(Q:VK),Inv X pins σ H s->RelV x v->aQ xs us->r x xs H Q ->
  wpAny (model X.prog X.w) X.A (call (.builtin id) (v::us)) (EP X pins σ Q) X.xe s
theorem aQ.one{x:V}{us:List Value}(h:aQ [x] us):∃u,us=[u]/\RelV x u:=vals1 h
theorem aQ.two{x y:V}{us:List Value}(h:aQ [x,y] us):∃u v,us=[u,v]/\RelV x u/\RelV y v:=vals2 h
theorem aQ.zero:∀{us:List Value},aQ [] us->us=[]
 | _,.nil=>rfl
theorem aQ.reverse{xs:List V}{us:List Value}(h:aQ xs us):aQ xs.reverse us.reverse:=by
 induction h with
 | nil=>exact .nil
 | cons r t ih=>rw[Fj,Fj];exact aQ.append ih (.cons r .nil)
section
variable{X:Cx}{pins:List (Addr×Obj)}{σ:St}{H:Hp}{s:Shared}{l b:Addr}{xs ys zs:List V}
theorem Inv.lset{its its' :List Value}{n:Nat}{f:Array Value->Array Value}{t' :Nat}(I:Inv X pins σ H s)(hH:H l=some (.lst xs))
  (e:s.heap.get? l=some {cls:=.type "list",data:=.seq its.toArray n}) (hf:f its.toArray=its'.toArray) (hv:aQ ys its') (hz:ys.length<=sizeLine) :
  Inv X pins σ (upd H l (.lst ys)) {s with heap:=s.heap.update l (Obj.mapSeq f),toks:=t'}:=by
 have q:=PySem.IsL.update e f;rw[hf]at q;refine I.write (x:=l) (e:=l) (by rw[hH];exact trivial) (.inl rfl) (fun b' u hb hu=>(Heap.get?_update_other s.heap (Obj.mapSeq f) (Fd hb)).trans hu) ⟨_,q⟩ ?_;exact⟨hz,its',_,hv,q⟩
theorem Inv.lnew{its:List Value}{t' :Nat}(I:Inv X pins σ H s)(hv:aQ ys its)(hz:ys.length<=sizeLine) :
  Inv X pins σ (upd H s.heap.objs.size (.lst ys)) {s with heap:=s.heap.push {cls:=.type "list",data:=.seq its.toArray},toks:=t'} :=
 I.laid (fun _ _ q=>Dr _ q) (Dx _) ⟨hz,its,0,hv,EB _ rfl⟩
theorem Inv.fresh(I:Inv X pins σ H s):H s.heap.objs.size=none:=I.hok.fresh (Dx _)
theorem Inv.lstM(I:Inv X pins σ H s)(hH:H l=some (.lst xs)):xs.length<=sizeLine/\∃(its:List Value)(n:Nat),aQ xs its/\xs.length=its.length/\s.heap.get? l=some {cls:=.type "list",data:=.seq its.toArray n}:=by
 obtain⟨z,its,n,r,e⟩:=I.hok l _ hH;exact⟨z,its,n,r,r.length,e⟩
end
section
variable{X:Cx}
noncomputable def wS:V->List V->Hp->VK->Prop:=fun x vs H Q=>∃l xs y,x=.ref l/\vs=[y]/\H l=some (.lst xs)/\xs.length<sizeLine/\Q .non (upd H l (.lst (xs++[y])))
theorem ja:MtM X "list.append" wS:=by
 intro pins s σ H x vs v us Q I rx rv h;obtain⟨l,xs,y,rfl,rfl,hH,hz,q⟩:=h;cases rx;obtain⟨u,rfl,ru⟩:=rv.one;obtain⟨z,its,n,r,hl,e⟩:=I.lstM hH;refine call_meets F.slot_list_append ⟨_,e,rfl⟩ F.entry_list_append (F.args_list_append_2 _ _) (PySem.list_append l its.toArray n u (by rw[D9];omega)) ⟨e,?_⟩;refine⟨.non,_,I.lset (its' :=its++[u]) hH e (by simp) (r.append (.cons ru .nil)) ?_,rfl,q⟩;rw[EC,FS];omega
noncomputable def rCat:R2:=fun x y H Q=>∃l b xs zs,x=.ref l/\y=.ref b/\H l=some (.lst xs)/\H b=some (.lst zs)/\xs.length+zs.length<=sizeLine/\∀p,H p=none->Q (.ref p) (upd H p (.lst (xs++zs)))
theorem AH:dw X (binaryOp .Add) rCat:=by
 intro pins s σ H x y v u Q I rx ry h;obtain⟨l,b,xs,zs,rfl,rfl,hH,hB,hz,q⟩:=h;cases rx;cases ry;obtain⟨z,its,n,r,hl,e⟩:=I.lstM hH;obtain⟨z2,its2,n2,r2,hl2,e2⟩:=I.lstM hB;refine PySem.P.add_list e e2 ?_ (by rw[D9,D9];omega);have ea:its.toArray++its2.toArray=(its++its2).toArray:=by simp
 rw[ea];exact⟨.ref _,_,I.lnew (t' :=s.toks) (r.append r2) (by rw[EC];omega),rfl,q _ I.fresh⟩
end
section
variable{prog:Program}{w:World}{A:Around}{E:Value->Shared->Prop}{s:Shared}
end
section
variable{X:Cx}
end
end L2
namespace Att
open PySem PySem.W PySem.Calls PyProof.Rows
theorem gj{P:Params}{h:Heap}:∀(ns:List Int)(vs:List Value),WellAll P h vs (ns.map WData.int)->IntsAre vs ns:=by
 intro ns
 induction ns with
 | nil =>
  intro vs w;rw[FK]at w;cases w;exact .nil
 | cons n ns ih =>
  intro vs w;rw[D2]at w;cases w with
  | cons a b =>
   cases a;exact .cons _ _ (ih _ b)
theorem qO{l:OpenLaw}{n:Nat}(hn:l.most=some n){P:Params}{h:Heap}{args:List WData}{vals:List Value}
  (hpre:l.row.toRowW.claim.pre args=true) (hwl:WellAll P h vals args) :
  ∃a vs ns,vals=[Value.ref a]/\args=[WData.list (ns.map WData.int)]/\h.get? a=some {cls:=.type "list",data:=.seq vs.toArray}/\IntsAre vs ns/\ns.length<=n:=by
 have hsh:WShape.hasAll [] args [.list .int]=true:=(pre_splitW hpre).1;have hc:l.pre.holds [] {args:=args}=true:=(pre_splitW hpre).2;obtain⟨d,r,rfl,h1,h2⟩:=hasAllW_cons hsh;obtain rfl:=hasAllW_nil h2;obtain⟨xs,rfl,h3⟩:=hasW_list h1;obtain⟨ns,rfl⟩:=items_int h3;have hlen:ns.length<=n:=by
  unfold OpenLaw.pre at hc;have h4:(WTm.not (.lt (.lit (.int (n:Int))) (.len (.arg 0)))).holds [] {args:=[.list (ns.map .int)]}=true:=by
   have h4:=(holds_andW hc).1;rw[hn]at h4;exact h4
  have h5:=condW_of h4 (w_not (w_lt w_lit (w_len_list (w_arg rfl))));rw[Dp]at h5;refine Nat.le_of_not_lt fun q=> ?_;have q' :(n:Int)<((ns.length:Nat):Int):=by omega
  first
   | (rw[EX q']at h5;exact absurd h5 (by decide))
   | (simp at h5;omega)
 cases hwl with
 | cons w1 w2 =>
  cases w2;cases w1 with
  | list ho hall=>exact⟨_,_,ns,rfl,rfl,ho,gj ns _ hall,hlen⟩
theorem qU(l:OpenLaw)(args:List WData):l.row.toRowW.claim.post args (.bool true) args=true :=
 postW_of (r:=l.row.toRowW) (X:=(true==true))
  (show WShape.has [] (.bool true) .bool=true by first|rfl|decide|simp[WShape.has,WShape.arms,WShape.armsAll])
  (show(WTm.eq .res (.lit (.bool true))).value [] {args:=args,res:=some (.bool true),after:=args}=some (.bool (true==true))from w_eq_bool (w_res rfl) w_lit) rfl
theorem nI{l:OpenLaw}{n:Nat}{q:Program}{loose:List Str}{XP:(Str->Option Value)->Heap->Prop}{YP:World->Heap->Prop}{d:DefRec}
  (hn:l.most=some n) (hdf:d.params.defaults=[])
  (call:∀(w:World)(s₀ s₁:Shared)(mg mb:Str->Option Value)(fa:Addr)(o:Obj)(pm cd doc:Value)(a:Addr)(vs:List Value)(ns:List Int),
   Ground q loose [] XP w s₀ mg mb s₁.heap->YP w s₁.heap ->
   s₁.heap.get? fa=some o->o.data=.func (docDef d.name d.params d.body d.scope pm cd doc)->s₁.heap.CodeRec cd d.name->mg d.name=some (.ref fa) ->
   s₁.heap.get? a=some {cls:=.type "list",data:=.seq vs.toArray}->IntsAre vs ns->ns.length<=n->s₁.gens= #[] ->
   codeAny (model l.prog w) callerA (.call (.ref fa) ⟨[.ref a],[]⟩) (fun r s' =>r=.ok (.ret (.bool true))/\OldK s₁.heap s'.heap/\s'.os=s₁.os/\AllBare s'.gens) s₁) :
  WalkO q loose XP YP l.row.toRowW d [] (fun f vs=>PySem.call f vs):=by
 intro w s₀ s₁ mg mb G Y fa o pm cd doc dV kV ho hd hcd hD hmg hg args vals as hpre hlay hrd hwl hlo;obtain rfl:dV=.none:=Dflts.none hD hdf;obtain rfl:kV=.none:=Dflts.noKw hD;obtain⟨a,vs,ns,rfl,rfl,hobj,hints,hlen⟩:=qO hn hpre hwl;refine enter_call (codeAny_mono (call w s₀ s₁ mg mb fa o pm cd doc a vs ns G Y ho (fd_plain hd) hcd hmg hobj hints hlen hg) fun r s' hq=> ?_);obtain⟨rfl,h2,h3,h4⟩:=hq;exact⟨.inl ⟨.bool true,.bool true,[],rfl,fun _=>rfl,.bool true,qU l _,fun _=>⟨List.Pairwise.nil,fun _ hm=>(nomatch hm)⟩⟩,h2,h3,h4⟩
section
variable{prog:Program}{w:World}{A:Around}{E:Value->Shared->Prop}{s:Shared}{K:Frag}
end
end Att
namespace L2
open PySem PySem.Spec PyProof.Rows
theorem qE{vs:List Value}{ns:List Int}(h:IntsAre vs ns):aQ (ns.map V.int) vs:=by
 induction h with
 | nil=>exact .nil
 | cons n t h ih=>exact .cons ⟨t,rfl⟩ ih
noncomputable def Bc(H:Hp):Prop:=∀b,H b=none\/∃o xs,H b=some (.frz o (.lst xs))
theorem uT{P:Program}{w:World}{K:W.Frag}{mg mb:Str->Option Value}{CX:rW}{k:Nat}{fa a:Addr}{fd:FuncData}{x:Str}{sp:Sp}{s₁:Shared}{vs:List Value}{ns:List Int}
  (KX:K.In s₁.heap) (hns:s₁.heap.Ns mainGlobals mg) (hb:s₁.heap.Ns builtinsNs mb) (hbb:∀x:Str,x≠"__name__"->mb x=bootBuiltins x) (hlim:s₁.heap.NoLimit) (hg:s₁.gens= #[])
  (ha:s₁.heap.get? a=some {cls:=.type "list",data:=.seq vs.toArray}) (hi:IntsAre vs ns) (hl:ns.length<=sizeLine) (hr:dI k callerA)
  (F:∀base:Heap,K.In base->base.Ns mainGlobals mg->bP P w K mg base CX k fa fd [x] sp) (hbind:∀(s:Shared)(u:Value),BindsTo s fd ⟨[u],[]⟩ [(x,u)])
  (hsp:∀H:Hp,Bc H->bJ K H a (ns.map V.int)->sp [.ref a] H (fun v _=>v=.bl true) fun _ _ _=>False)
  (hCX:∀H e s',CX [] H s₁ (fun _ _ _=>False) e s' ->False) :
  codeAny (model P w) callerA (.call (.ref fa) ⟨[.ref a],[]⟩) (fun r s' =>r=.ok (.ret (.bool true))/\OldK s₁.heap s'.heap/\s'.os=s₁.os/\AllBare s'.gens) s₁:=by
 have rv:=qE hi;have Cz:=hi.length
 have core:∀H:Hp,Bc H->bJ K H a (ns.map V.int)->dz P w H s₁.heap->(∀b,H b≠none->b=a)->(H a≠none->K.lookup a=none) ->
   codeAny (model P w) callerA (.call (.ref fa) ⟨[.ref a],[]⟩) (fun r s' =>r=.ok (.ret (.bool true))/\OldK s₁.heap s'.heap/\s'.os=s₁.os/\AllBare s'.gens) s₁:=by
  intro H hO hS hok hA hK;have base_of:∀{b:Addr}{o:Obj},s₁.heap.get? b=some o->H b=none->(kZ s₁.heap H).get? b=some o:=fun e n=>ue e n;have noA:∀{b:Addr}{o:Obj}{es:Array DictEntry}{ep:Nat},s₁.heap.get? b=some o->o.data=.dict es ep->H b=none:=fun{b o es ep} e d=>by
   cases q:H b with
   | none=>rfl
   | some u =>
    have e' :b=a:=hA b (by rw[q];simp);subst e';rw[ha]at e;cases e;have d' :Data.seq vs.toArray _=Data.dict es ep:=d;cases d'
  have nsK:∀{b:Addr}{m:Str->Option Value},s₁.heap.Ns b m->(kZ s₁.heap H).Ns b m:=fun{b m} ⟨o,es,ep,e,d,r⟩=>⟨o,es,ep,base_of e (noA e d),d,r⟩
  have hKb:K.In (kZ s₁.heap H):=fun b o e=>base_of (KX b o e) (by
   cases q:H b with
   | none=>rfl
   | some u =>
    have e' :b=a:=hA b (by rw[q];simp);subst e';rw[hK (by rw[q];simp)]at e;cases e)
  have hM:Mod K mg (kZ s₁.heap H):=⟨hKb,nsK hns,⟨mb,nsK hb,hbb⟩,let⟨mc,h1,h2⟩:=hlim;⟨mc,nsK h1,h2⟩⟩;have e0:yP P w K mg (kZ s₁.heap H) callerA [] s₁ H:=⟨rfl,hM,fun b o e=>wx e,Nat.le_of_eq (qu _ _),trivial,fun b hb=>absurd (show b∈([]:List Addr)from hb) (by simp),hok,.of_eq hg⟩;refine codeAny_mono ((F _ hKb (nsK hns)).run callerA [] s₁ H ⟨[.ref a],[]⟩ [.ref a] [.ref a] _ _ hr e0 (hbind s₁ (.ref a)) (.cons rfl .nil) (hsp H hO hS)) fun r s' h=> ?_;cases r with
  | error e=>exact(hCX H e s' h).elim
  | ok fl =>
   cases fl with
   | next=>exact False.elim h
   | brk=>exact False.elim h
   | cont=>exact False.elim h
   | ret u =>
    obtain⟨v,H',os,bare,un,hok',r',q⟩:=h;have q' :v=.bl true:=q;subst q';obtain rfl:u=Value.bool true:=r';refine⟨rfl,OldK.of_keep fun b o e=> ?_,os,bare⟩;cases q:H b with
    | none=>exact un.keep b o e q (by intro z;exact absurd (show b∈([]:List Addr)from z) (by simp)) (by simp)
    | some u =>
     rcases hO b with z|⟨ob,xs,z⟩
     ·rw[q]at z;cases z
     ·have z2:=un.frzs b ob _ z
      obtain⟨e1,_⟩:=hok b _ z;obtain⟨e2,_⟩:=hok' b _ z2;rw[e]at e1;cases e1;exact e2
 cases hk:K.lookup a with
 | some o =>
  have e:=KX a o hk;rw[ha]at e;cases e;refine core (fun _=>none) (fun _=>.inl rfl) (.inr ⟨_,vs.toArray,_,hk,rfl,rfl,rfl,by rw[D9,Cz];exact hl,by simpa using rv⟩) (fun b u z=>by have z' :(none:Option HO)=some u:=z;cases z') (fun b z=>absurd rfl z) fun z=>absurd rfl z
 | none =>
  refine core (fun b=>if b=a then some (.frz {cls:=.type "list",data:=.seq vs.toArray} (.lst (ns.map V.int)))else none) (fun b=> ?_) (.inl (.inr ⟨{cls:=.type "list",data:=.seq vs.toArray},D3 rfl⟩)) (fun b u z=> ?_) (fun b z=> ?_) fun _=>hk
  ·by_cases hb:b=a
   ·exact .inr ⟨_,_,D3 hb⟩
   ·exact .inl (Dz hb)
  ·by_cases hb:b=a
   ·have z' :=(D3 hb).symm.trans z
    cases z';subst hb;exact⟨ha,by rw[Dp];exact hl,vs,_,rv,ha⟩
   ·have z' :=(Dz hb).symm.trans z
    cases z'
  ·by_cases hb:b=a
   ·exact hb
   ·exact absurd (Dz hb) z
theorem vj{l:W.OpenLaw}{n k:Nat}{q:Program}{loose:List Str}{XP:(Str->Option Value)->Heap->Prop}{YP:World->Heap->Prop}{d:DefRec}{K:Params->W.Frag}{CX:World->rW}{sp:World->Sp}{x:Str}
  (hn:l.most=some n) (hn2:n<=sizeLine) (hdf:d.params.defaults=[]) (hr:dI k callerA)
  (hY:∀(w:World)(h:Heap),YP w h->(K w.params).In h)
  (F:∀(w:World)(mg:Str->Option Value)(fa:Addr)(h:Heap),(K w.params).In h->h.Ns mainGlobals mg->mg d.name=some (.ref fa) ->
   ∃fd:FuncData,(∀(s:Shared)(u:Value),BindsTo s fd ⟨[u],[]⟩ [(x,u)]) /\
    ∀base:Heap,(K w.params).In base->base.Ns mainGlobals mg->bP l.prog w (K w.params) mg base (CX w) k fa fd [x] (sp w))
  (hsp:∀(w:World)(H:Hp)(a:Addr)(ns:List Int),ns.length<=n->Bc H->bJ (K w.params) H a (ns.map V.int)->sp w [.ref a] H (fun v _=>v=.bl true) fun _ _ _=>False)
  (hCX:∀(w:World)(H:Hp)(s:Shared)(e:Value)(s' :Shared),CX w [] H s (fun _ _ _=>False) e s' ->False) :
  W.WalkO q loose XP YP l.row.toRowW d [] (fun f vs=>PySem.call f vs):=by
 refine Att.nI hn hdf fun w s₀ s₁ mg mb fa o pm cd doc a vs ns G Y ho hd hcd hmg hobj hints hlen hg=> ?_;have KX:=hY w _ Y;obtain⟨fd,hb,hF⟩:=F w mg fa _ KX G.T.g hmg;exact uT KX G.T.g G.T.b G.T.builtins G.T.nolimit hg hobj hints (Eh hlen hn2) hr hF hb (fun H hO hS=>hsp w H a ns hlen hO hS) fun H e s' =>hCX w H s₁ e s'
noncomputable def aR(s:Stmt):Arguments:=match s with
 | .FunctionDef _ a _ _ _ _ _ _ _ _=>a
 | _=>{posonlyargs:=[],args:=[],vararg:=none,kwonlyargs:=[],kw_defaults:=[],kwarg:=none,defaults:=[]}
noncomputable def aE(s:Stmt):List Stmt:=match s with
 | .FunctionDef _ _ b _ _ _ _ _ _ _=>b
 | _=>[]
noncomputable def aA(s:Stmt):Scope:=match s with
 | .FunctionDef _ _ _ _ _ _ sc _ _ _=>sc
 | _=>{kind:=.function,names:=[],isGenerator:=false,isCoroutine:=false}
noncomputable abbrev jK:rW:=fun _ _ _ _ _ _=>False
noncomputable abbrev E0:XK:=fun _ _ _=>False
theorem uA{X:Cx}:oy jK X E0:=fun _ _ _ _ _ _ _ h=>h.elim
structure Bw(K:W.Frag)(x qual:Str)(st:Stmt)(f:Addr)(fd:FuncData):Prop where
 ex:∃(oc:Value)(od:Option Addr)(kV doc pm:Value)(an:Option Addr)(cdv ct:Value)(osl:Array (Option Value)),
  fd=W.fnOf x qual (aR st) (aE st) (aA st) .none kV doc pm an cdv ct/\K.lookup f=some ⟨oc,od,.func fd,osl⟩/\W.codeIn K cdv qual=true
 kp:W.keepIn K (.ref f)=true
section
variable{P:Program}{w:World}{K:W.Frag}{mg:Str->Option Value}{base:Heap}
theorem Bw.ok{x qual:Str}{st:Stmt}{f:Addr}{fd:FuncData}{N ps:List Str}{k:Nat}{sp:Sp}(F:Bw K x qual st f fd)(S:aY N ps (aA st))(len:∀vs H Q E,sp vs H Q E->vs.length=ps.length)
  (hbody:∀(cdv:Value)(A:Around)(outer:List Env)(s:Shared)(H:Hp)(vs:List V)(Q:VK)(E:XK),dI k (A.deeper (envOfC qual (aA st) s.heap.objs.size f cdv))->sp vs H Q E ->
   ∃t,oz (oT jK P w K mg base N qual (aA st) f cdv A outer s H E).nox (aE st) t/\t {nx:=fun _ H' =>Q .non H',rt:=Q} (start N vs) H):bP P w K mg base jK (k+1) f fd ps sp:=by
 obtain⟨oc,od,kV,doc,pm,an,cdv,ct,osl,rfl,lk,hcd⟩:=F.ex;refine C8 lk hcd S len fun A outer s H vs Q E hr hsp=> ?_;obtain⟨t,h,q⟩:=hbody cdv A outer s H vs Q E hr hsp;exact⟨t,h.nox,q⟩
theorem Bw.binds{x qual:Str}{st:Stmt}{f:Addr}{fd:FuncData}{ps:List Str}(F:Bw K x qual st f fd)
  (h:∀(kV doc pm:Value)(an:Option Addr)(cdv ct:Value)(us:List Value),us.length=ps.length->bindArgs (W.fnOf x qual (aR st) (aE st) (aA st) .none kV doc pm an cdv ct) ⟨us,[]⟩=pure (ps.zip us)):Binds K fd ps []:=by
 obtain⟨oc,od,kV,doc,pm,an,cdv,ct,osl,rfl,lk,hcd⟩:=F.ex;exact .all (h kV doc pm an cdv ct)
theorem ug{x qual:Str}{st:Stmt}{f:Addr}{oc:Value}{od an:Option Addr}{osl:Array (Option Value)}{kV doc pm cdv ct:Value}(l:K.lookup f=some ⟨oc,od,.func (W.fnOf x qual (aR st) (aE st) (aA st) .none kV doc pm an cdv ct),osl⟩)
  (c:W.codeIn K cdv qual=true) (k:W.keepIn K (.ref f)=true):Bw K x qual st f (W.fnOf x qual (aR st) (aE st) (aA st) .none kV doc pm an cdv ct):=⟨⟨oc,od,kV,doc,pm,an,cdv,ct,osl,rfl,l,c⟩,k⟩
end
theorem yk{A:Around}{k:Nat}(hr:dI k A):A.units+1<cLine:=F3 (Nat.add_le_add_left (by decide:1<=64) _) hr.units
section
variable{X:Cx}
theorem pv(i:Nat){x:Str}{pos:Pos}(hN:X.N[i]? =some x:=by rfl)(hv:Bv X.env.scope x:=by first|exact Or.inl rfl|exact Or.inr (Or.inl rfl)|exact Or.inr (Or.inr rfl))(hd:(x==("__debug__":Str))=false:=by decide)
  (hcd:(x==("__classdict__":Str))=false:=by decide):PE X (.Name x pos) (CA i):=n6 hN hv hd hcd
end
theorem kU{A B:Prop}(h:B):if false=true then A else B:=by
 rw[Dz Dy];exact h
theorem iR{A B:Prop}(h:A):if true=true then A else B:=by
 rw[D3 rfl];exact h
theorem ite2{c A B:Prop}[Decidable c](h1:c->A)(h2:¬c->B):if c then A else B:=by
 by_cases h:c
 ·rw[D3 h]
  exact h1 h
 ·rw[Dz h]
  exact h2 h
noncomputable def aC(H H' :Hp):Prop:=∀b o,H b=some o->H' b=some o
theorem aC.refl(H:Hp):aC H H:=fun _ _ h=>h
theorem aC.trans{H H1 H2:Hp}(a:aC H H1)(b:aC H1 H2):aC H H2:=fun c o h=>b c o (a c o h)
theorem aC.free{H H' :Hp}(e:aC H H'){l:Addr}(h:H' l=Option.none):H l=Option.none:=by
 cases q:H l with
 | none=>rfl
 | some o =>
  rw[e l o q]at h;cases h
theorem aC.seq{K:W.Frag}{H H' :Hp}{a:Addr}{xs:List V}(e:aC H H')(h:bJ K H a xs):bJ K H' a xs:=by
 rcases h with(h|⟨o,h⟩)|h
 ·exact .inl (.inl (e _ _ h))
 ·exact .inl (.inr ⟨o,e _ _ h⟩)
 ·exact .inr h
end L2
set_option maxHeartbeats 4000000
namespace UM
open PySem PySem.Builtin PySem.Builtin.Str
theorem v9{x y:Str}(h:x.cps.toList=y.cps.toList):x=y:=PySem.Str.ext' (Array.toList_inj.mp h)
structure Dm(m:Nat)(rows:List Str):Prop where
 some:rows≠[]
 few:rows.length<=m
 wide:∃k,1<=k/\k<=m/\∀r∈rows,r.length=k
 signs:∀r∈rows,∀c∈r.cps.toList,c=120\/c=46
end UM
namespace L2
open PySem PySem.Spec PyProof.Rows
noncomputable def fU(env:Env):List (Str×NameKind)->List (Str×Addr)->List (Str×Addr)
 | [],acc=>acc
 | (n,k)::r,acc=>if(k==NameKind.free)=true then fU env r ((n,(env.cells.lookup n).getD 0)::acc)else fU env r acc
theorem fz{env:Env}{n:Str}{k:NameKind}{r:List (Str×NameKind)}{acc:List (Str×Addr)}(h:(k==NameKind.free)=true) :
  fU env ((n,k)::r) acc=fU env r ((n,(env.cells.lookup n).getD 0)::acc):=by
 show(if(k==NameKind.free)=true then _ else _)=_;rw[D3 h]
theorem eQ{env:Env}{n:Str}{k:NameKind}{r:List (Str×NameKind)}{acc:List (Str×Addr)}(h:¬(k==NameKind.free)=true) :
  fU env ((n,k)::r) acc=fU env r acc:=by
 show(if(k==NameKind.free)=true then _ else _)=_;rw[Dz h]
theorem nB{env:Env}{n:Str}{c:Addr}(h:env.cells.lookup n=some c):cellOf env n=pure c:=by
 unfold cellOf;rw[h]
theorem oX{scope:Scope}{env:Env}(h:∀x∈scope.names,x.2=.free->∃c,env.cells.lookup x.1=some c):closureFor scope env=pure (fU env scope.names []):=by
 unfold closureFor
 suffices q:∀(l:List (Str×NameKind))(acc:List (Str×Addr)),(∀x∈l,x.2=.free->∃c,env.cells.lookup x.1=some c) ->
   (forIn l acc (fun(x:Str×NameKind) (r:List (Str×Addr))=>if(x.2==NameKind.free)=true then(do let a<-cellOf env x.1;pure (ForInStep.yield ((x.1,a)::r)))else pure (ForInStep.yield r)):Sem (List (Str×Addr)))=pure (fU env l acc)by
  exact(Ek (fun m=>m >>= pure) (q scope.names [] h)).trans (by rfl)
 intro l
 induction l with
 | nil=>intro acc _;rfl
 | cons x l ih =>
  intro acc hl;obtain⟨n,k⟩:=x;rw[List.forIn_cons]
  by_cases hk:(k==NameKind.free)=true
  ·obtain⟨c,hc⟩:=hl (n,k) Ds (by simpa using hk)
   rw[fz hk];simp only[hk,if_true];rw[nB hc];have e:(env.cells.lookup n).getD 0=c:=by rw[show env.cells.lookup n=some c from hc];rfl
   rw[e];exact ih _ fun y hy=>hl y (Dq _ hy)
  ·rw[eQ hk]
   simp only[hk,if_false];exact ih _ fun y hy=>hl y (Dq _ hy)
theorem cz{env:Env}:∀{l:List (Str×NameKind)}{acc:List (Str×Addr)}{x:Str}{c:Addr},(∀y∈l,y.2=.free->∃c,env.cells.lookup y.1=some c) ->
  (fU env l acc).lookup x=some c->acc.lookup x=some c\/env.cells.lookup x=some c
 | [],acc,x,c,_,h=>.inl h
 | (n,k)::l,acc,x,c,hl,h=>by
  have hl' :∀y∈l,y.2=.free->∃c,env.cells.lookup y.1=some c:=fun y hy=>hl y (Dq _ hy)
  by_cases hk:(k==NameKind.free)=true
  ·rw[fz hk]at h
   rcases cz hl' h with q|q
   ·rw[Ea]at q
    cases hx:(x==n)with
    | true =>
     rw[hx]at q;have hxn:x=n:=by simpa using hx
     subst hxn;obtain⟨c',hc'⟩:=hl (x,k) Ds (by simpa using hk);have hc2:env.cells.lookup x=some c' :=hc';rw[hc2]at q
     right
     rw[hc2]
     simpa using q
    | false =>
     rw[hx]at q;exact .inl q
   ·exact .inr q
  ·rw[eQ hk]at h
   exact cz hl' h
theorem fT{env:Env}:∀{l:List (Str×NameKind)}{acc:List (Str×Addr)}{x:Str},((x,NameKind.free)∈l\/∃c,acc.lookup x=some c)->∃c,(fU env l acc).lookup x=some c
 | [],acc,x,h=>by
  rcases h with h|h
  ·cases h
  ·exact h
 | (n,k)::l,acc,x,h=>by
  by_cases hk:(k==NameKind.free)=true
  ·rw[fz hk]
   refine fT ?_
   rcases h with h|⟨c,h⟩
   ·rcases D8.mp h with e|e
    ·right
     injection e with e1 e2
     subst e1;exact⟨(env.cells.lookup x).getD 0,by rw[Ea];simp⟩
    ·exact .inl e
   ·right
    rw[Ea];cases hx:(x==n)with
    | true=>exact⟨_,rfl⟩
    | false=>exact⟨c,h⟩
  ·rw[eQ hk]
   refine fT ?_
   rcases h with h|h
   ·rcases D8.mp h with e|e
    ·injection e with e1 e2
     subst e2;exact absurd rfl hk
    ·exact .inl e
   ·exact .inr h
section
variable{prog:Program}{w:World}{A:Around}{R:Result->Shared->Prop}{s:Shared}
theorem kn{elt target iter:Expr}{ifs:List Expr}{scope:Scope}{pos:Pos}{it acc:Value}{env:Env}(I:Nat->Shared->Prop)
  (turn:∀n s,I n s->wpAny (model prog w) A (pyNext it) (fun r s₁=>match r with
   | none=>R (.ok .next) s₁
   | some v=>wpAny (model prog w) A (letOwnedTupleGo target it v) (fun _ s₁' =>wpAny (model prog w) A (assign target env v) (fun _ s₂ =>
     wpAny (model prog w) A (forIn ifs true fun c r=>if r=true then do let ok<-isTrue c env (eval c env);pure (ForInStep.yield ok)else pure (ForInStep.yield r)) (fun ok s₃ =>
      if ok=true then wpAny (model prog w) A (eval elt env) (fun x s₄ =>
       wpAny (model prog w) A (call (.builtin "list.append") [acc,x]) (fun _ s₅=>∃m,m<n/\I m s₅) (notedBy (model prog w) A env fun e s' =>R (.error e) s') s₄) (notedBy (model prog w) A env fun e s' =>R (.error e) s') s₃
      else∃m,m<n/\I m s₃) (notedBy (model prog w) A env fun e s' =>R (.error e) s') s₂) (notedBy (model prog w) A env fun e s' =>R (.error e) s') s₁')
       (notedBy (model prog w) A env fun e s' =>R (.error e) s') s₁) (notedBy (model prog w) A env fun e s' =>R (.error e) s') s)
  (n:Nat) (h:I n s) :
  codeAny (model prog w) A (.compLoop (.ListComp elt [⟨target,iter,ifs,0⟩] scope pos) 0 it acc env) R s:=by
 refine codeAny_loop rfl I (fun n s hI=> ?_) n h;show wpAny _ A ((compTurn (.ListComp elt [⟨target,iter,ifs,0⟩] scope pos) 0 it acc env).onRaise (fun x=>do noteFrame x env;theTreesLotGoes x)) _ _ s;refine wpAny_noted ?_;rw[compTurn_list];refine D6 (wpAny_standAt (D6 (FB (turn n s hI) (fun r s₁ h₁=> ?_) fun _ _ h' =>h')));cases r with
 | none=>exact ES h₁
 | some v =>
  refine D6 (FB h₁ (fun _ s₁' h₁' => ?_) fun _ _ h' =>h');refine D6 (FB h₁' (fun _ s₂ h₂=>D6 (FB h₂ (fun ok s₃ h₃=> ?_) fun _ _ h' =>h')) fun _ _ h' =>h');cases ok with
  | false=>exact ES ⟨rfl,h₃⟩
  | true =>
   exact D6 (D6 (FB h₃ (fun x s₄ h₄=>D6 (FB h₄ (fun _ s₅ h₅=>ES (ES ⟨rfl,h₅⟩)) fun _ _ h' =>h')) fun _ _ h' =>h'))
end
noncomputable abbrev aw(X:Cx)(N' :List Str)(scope:Scope)(C:Addr)(s2:Shared)(H2:Hp)(fp:List Addr)(cl:List (Str×Addr)):Cx where
 prog:=X.prog
 w:=X.w
 K:=X.K
 mg:=X.mg
 base:=X.base
 A:=X.A
 N:=N'
 s₀:=s2
 H₀:=H2
 env:=compEnvC scope cl C X.env
 outer:=X.stack
 stack:=X.stack
 ex:=fp
 fn:=fun x=>scope.names.lookup x==some .cell
 calm:=X.calm
 pn:=[]
 xe:=fun _ _=>False
noncomputable def bA(X:Cx)(scope:Scope):List Str->List (Option Nat)->Prop
 | [],[]=>True
 | _::ns,none::r=>bA X scope ns r
 | x::ns,some i::r=>(X.N[i]? =some x/\scope.names.lookup x=some .free/\(X.env.scope.names.lookup x=some .cell\/X.env.scope.names.lookup x=some .free))/\bA X scope ns r
 | _,_=>False
noncomputable def az(src:List (Option Nat))(σ:St):St:=src.map fun o=>match o with
 | none=>none
 | some i=>(σ[i]?).join
theorem bA.len{X:Cx}{scope:Scope}:∀{N' :List Str}{src:List (Option Nat)},bA X scope N' src->src.length=N'.length
 | [],[],_=>rfl
 | _::_,none::_,h=>Ek (·+1) (bA.len (show bA X scope _ _ from h))
 | _::_,some _::_,h=>Ek (·+1) (bA.len h.2)
 | [],_::_,h=>by cases h
 | _::_,[],h=>by cases h
theorem bA.at{X:Cx}{scope:Scope}{σ:St}:∀{N' :List Str}{src:List (Option Nat)}{j:Nat}{x:Str}{v:V},bA X scope N' src->N'[j]? =some x->(az src σ)[j]? =some (some v) ->
  ∃i:Nat,X.N[i]? =some x/\σ[i]? =some (some v)/\scope.names.lookup x=some .free/\(X.env.scope.names.lookup x=some .cell\/X.env.scope.names.lookup x=some .free)
 | [],[],j,x,v,_,h,_=>by simp at h
 | y::ns,none::r,0,x,v,_,_,h=>by simp[az]at h
 | y::ns,none::r,j+1,x,v,s,h,h' =>bA.at (N' :=ns) (src:=r) (j:=j) s (by simpa using h) (by simpa [az]using h')
 | y::ns,some i::r,0,x,v,s,h,h' =>by
  have e:y=x:=by simpa using h
  subst e;have q:(σ[i]?).join=some v:=by simpa [az]using h'
  refine⟨i,s.1.1,?_,s.1.2.1,s.1.2.2⟩;cases z:σ[i]? with
  | none=>rw[z]at q;cases q
  | some o=>rw[z]at q;exact Ek some q
 | y::ns,some i::r,j+1,x,v,s,h,h' =>bA.at (N' :=ns) (src:=r) (j:=j) s.2 (by simpa using h) (by simpa [az]using h')
 | [],_::_,_,_,_,s,_,_=>by cases s
 | _::_,[],_,_,_,s,_,_=>by cases s
noncomputable def vS(X:Cx)(ifs:List Expr)(t:TT):Prop :=
 ∀(pins:List (Addr×Obj))(s:Shared)(σ:St)(H:Hp)(Q:Bool->Hp->Prop),Inv X pins σ H s->t σ H Q ->
  wpAny (model X.prog X.w) X.A (forIn ifs true fun c r=>if r=true then do let ok<-isTrue c X.env (eval c X.env);pure (ForInStep.yield ok)else pure (ForInStep.yield r)) (TP X pins σ Q) X.xe s
noncomputable def sf:TT:=fun _ H Q=>Q true H
theorem fD{X:Cx}:vS X [] sf:=fun _ _ _ H _ I h=>wpAny_tests_nil ⟨H,I,h⟩
theorem mD{X:Cx}{c:Expr}{t:TT}(h:PT X c t):vS X [c] t:=fun pins s σ H Q I hw=>wpAny_tests_one (h pins s σ H Q I hw)
noncomputable def Bh(X:Cx)(N' :List Str)(src:List (Option Nat))(scope:Scope)(target:Expr)(ifs:List Expr)(elt:Expr)(D:Addr)(σ:St)(x:V)(ys:List V)(H' :Hp)(N:List V->Hp->Prop):Prop :=
 ∀(C:Addr)(s2:Shared)(H2:Hp)(fp:List Addr)(cl:List (Str×Addr)),∃(g:TG)(tt:TT)(te:TE),PG (aw X N' scope C s2 H2 fp cl) target g/\vS (aw X N' scope C s2 H2 fp cl) ifs tt/\PE (aw X N' scope C s2 H2 fp cl) elt te /\
  g x (az src σ) H' fun σ2 H3=>(σ2.length=N'.length/\∀(j:Nat)(v:V),(az src σ)[j]? =some (some v)->σ2[j]? =some (some v)) /\
   tt σ2 H3 fun b H4=>if b=true then te σ2 H4 fun v H5=>H5 D=some (.lst ys)/\ys.length<sizeLine/\N (ys++[v]) (upd H5 D (.lst (ys++[v])))else N ys H4
noncomputable def Bp(X:Cx)(N' :List Str)(src:List (Option Nat))(scope:Scope)(target:Expr)(ifs:List Expr)(elt:Expr)(wi:TI):TE:=fun σ H Q=>wi σ H fun J H1=>∀D,H1 D=none ->
 ∃W:Nat->Nat->List V->Hp->Prop,(∃m,W 0 m [] (upd H1 D (.lst [])))/\∀i m ys H,W i m ys H ->
  (J.stop i H/\Q (.ref D) H)\/(J.go i H/\∀x H',J.yld i H x H' ->Bh X N' src scope target ifs elt D σ x ys H' fun ys' H'' =>∃m',m' <m/\W (i+1) m' ys' H'')
section
variable{X:Cx}{pins:List (Addr×Obj)}{σ:St}{H:Hp}{s:Shared}
structure rV(X:Cx)(scope:Scope)(C:Addr)(cl:List (Str×Addr)):Prop where
 ex:∃own,cl=own++fU X.env scope.names []/\(∀n c,(n,c)∈own->C<c/\scope.names.lookup n=some .cell)/\(∀x,(x,NameKind.cell)∈scope.names->∃c,own.lookup x=some c)/\own.Pairwise fun x y=>x.2≠y.2
theorem rV.sub{scope:Scope}{C:Addr}{cl:List (Str×Addr)}(k:rV X scope C cl)(hfree:∀y∈scope.names,y.2=.free->∃c,X.env.cells.lookup y.1=some c){x:Str}{c:Addr}(e:cl.lookup x=some c) :
  (C<c/\scope.names.lookup x=some .cell)\/(scope.names.lookup x≠some .cell\/True)/\X.env.cells.lookup x=some c:=by
 obtain⟨own,rfl,h1,h2,h3⟩:=k.ex;rw[FF]at e;cases z:own.lookup x with
 | some c' =>
  rw[z]at e;cases e;exact .inl (h1 x c (ER z))
 | none =>
  rw[z]at e
  rcases cz hfree e with q|q
  ·cases q
  ·exact .inr ⟨.inr trivial,q⟩
theorem xm{N' :List Str}{scope:Scope}{C:Addr}{fp:List Addr}{cl:List (Str×Addr)}(I:Inv X pins σ H s)(hkind:scope.kind=.function)(k:rV X scope C cl)
  (hfree:∀y∈scope.names,y.2=.free->∃c,X.env.cells.lookup y.1=some c) (hC:s.heap.objs.size<=C) (hf:∀b∈fp,gG X pins H b) (hlt:∀b∈fp,b<s.heap.objs.size):(aw X N' scope C s H fp cl).Ok:=by
 have old:∀x c,X.env.cells.lookup x=some c->c<s.heap.objs.size:=fun x c e=>let⟨_,q⟩:=I.cell x c e;q.lt
 obtain⟨own,hcl,h1,h2,h3⟩:=k.ex;have look:∀x c,cl.lookup x=some c->(x,c)∈own\/X.env.cells.lookup x=some c:=fun x c e=>by
  rw[hcl,FF]at e;cases z:own.lookup x with
  | some c' =>rw[z]at e;cases e;exact .inl (ER z)
  | none =>
   rw[z]at e
   rcases cz hfree e with q|q
   ·cases q
   ·exact .inr q
 refine⟨I.ok.mod,hkind,I.ok.glob,I.ok.blt,hC,fun x y c e1 e2=> ?_,fun x hx=> ?_,fun x c h e=> ?_,I.ok.hd,I.ok.frames,.inl rfl,fun b hb=>⟨?_,fun x c e=> ?_⟩,
  I.bs,Eh I.ok.bsz I.sz,fun b o e hb=> ?_,fun b hb hs=> ?_,I.stack,I.stkFree⟩
 ·rcases look x c e1 with q1|q1<;>rcases look y c e2 with q2|q2
  ·exact PySem.name_of_addr h3 q1 q2
  ·exact absurd (FQ (old y c q2) (F3 hC (h1 x c q1).1)) (FL _)
  ·exact absurd (FQ (old x c q1) (F3 hC (h1 y c q2).1)) (FL _)
  ·exact I.ok.inj x y c q1 q2
 ·-- a name of the block's that is no local of it is one that it closes over,or has a cell of its own
  have hx' :(relabel scope X.env).names.lookup x=some .cell\/(relabel scope X.env).names.lookup x=some .free:=hx;have go:∀k,(k=NameKind.cell\/k=NameKind.free)->(relabel scope X.env).names.lookup x=some k->(x,NameKind.free)∈scope.names\/(x,NameKind.cell)∈scope.names:=fun k hk e=>by
   have m:=ER e;obtain⟨⟨n,k'⟩,hm,e'⟩:=Dv.mp m
   by_cases hfr:k' =NameKind.free
   ·subst hfr
    have e'' :(if(NameKind.free==NameKind.free&&X.env.scope.kind== .function&&X.env.kindOf n==some .cell)=true then(n,NameKind.cell)else(n,NameKind.free))=(x,k):=e';have hn:n=x:=by split at e'' <;>exact(Prod.mk.inj e'').1
    rw[<- hn];exact .inl hm
   ·have e'' :(if(k' ==NameKind.free&&X.env.scope.kind== .function&&X.env.kindOf n==some .cell)=true then(n,NameKind.cell)else(n,k'))=(x,k):=e'
    have hkf:(k' ==NameKind.free)=false:=by simpa using hfr
    rw[hkf,F5,F5,Dz Dy]at e'';obtain⟨g1,g2⟩:=Prod.mk.inj e'';subst g1 g2
    rcases hk with rfl|rfl
    ·exact .inr hm
    ·exact .inl hm
  have fin:(x,NameKind.free)∈scope.names\/(x,NameKind.cell)∈scope.names->∃c,cl.lookup x=some c:=by
   intro z;rw[hcl]
   rcases z with z|z
   ·obtain⟨c,hc⟩:=fT (env:=X.env) (l:=scope.names) (acc:=[]) (x:=x) (.inl z)
    rw[FF];cases own.lookup x with
    | some c' =>exact⟨c',rfl⟩
    | none=>exact⟨c,hc⟩
   ·obtain⟨c,hc⟩:=h2 x z
    exact⟨c,by rw[FF,hc];rfl⟩
  rcases hx' with e|e
  ·exact fin (go _ (.inl rfl) e)
  ·exact fin (go _ (.inr rfl) e)
 ·have h:scope.names.lookup x=some .cell:=by simpa using h
  obtain⟨c',hc'⟩:=h2 x (ER h);have e:cl.lookup x=some c:=e;rw[hcl,FF,hc']at e;cases e;exact Eh hC (FR (h1 x c (ER hc')).1)
 ·exact fun e=>absurd (hlt b hb) (by show¬b<_;rw[e];exact Nat.not_lt.mpr hC)
 ·rcases look x c e with q|q
  ·exact fun z=>absurd (FQ (hlt b hb) (F3 hC (h1 x c q).1)) (by rw[z];exact FL _)
  ·exact(hf b hb).2.2.2.2.1 x c q
 ·rcases(hf b hb).2.2.2.1 with q|q
  ·exact I.ok.noex b o e q
  ·exact absurd (EA e) (Nat.not_lt.mpr (Eh I.ok.bsz q))
 ·rcases D8.mp (I.stkSub b hs)with q|q
  ·exact(hf b hb).2.1 q
  ·exact(hf b hb).2.2.1 q
theorem bU:∀(names:List (Str×NameKind))(n:Nat)(a b:List (Str×Addr)),cellsFrom n names (a++b)=cellsFrom n names a++b
 | [],_,_,_=>rfl
 | (x,k)::r,n,a,b=>by
  unfold cellsFrom
  split
  ·exact bU r (n+1) ((x,n)::a) b
  ·exact bU r n a b
theorem cY:∀(names:List (Str×NameKind))(n:Nat)(acc:List (Str×Addr))(x:Str)(c:Addr),(x,c)∈cellsFrom n names acc->(x,c)∈acc\/(x,NameKind.cell)∈names
 | [],_,_,_,_,h=>.inl h
 | (y,k)::r,n,acc,x,c,h=>by
  unfold cellsFrom at h
  split at h
  ·rename_i hk
   have hk:k=.cell:=by simpa using hk
   rcases cY r (n+1) ((y,n)::acc) x c h with q|q
   ·rcases D8.mp q with e|e
    ·cases e
     rw[hk];exact .inr Ds
    ·exact .inl e
   ·exact .inr (Dq _ q)
  ·rcases cY r n acc x c h with q|q
   ·exact .inl q
   ·exact .inr (Dq _ q)
theorem xw{scope:Scope}{C:Addr}(hcn:∀y∈scope.names,y.2=.cell->scope.names.lookup y.1=some .cell)(h:Heap)(hC:h.objs.size=C+1):rV X scope C (cellsFrom (C+1) scope.names (fU X.env scope.names [])):=by
 have ok:=cellsFrom_ok scope.names h (C+1) [] ⟨fun _ _ hm=>(nomatch hm),List.Pairwise.nil⟩ (by rw[hC];exact Dx _);rw[hC]at ok;refine⟨cellsFrom (C+1) scope.names [],by rw[<- bU];rfl,fun n c hm=>⟨(ok.empty n c hm).2,?_⟩,fun x hx=> ?_,ok.apart⟩
 ·rcases cY _ _ _ _ _ hm with q|q
  ·cases q
  ·exact hcn _ q rfl
 ·have:=W.cellsFrom_some (x:=x) scope.names (C+1) [] (.inl (hcn _ hx rfl))
  exact Option.isSome_iff_exists.mp this
theorem uq{M:Model}{A:Around}{E:Value->Shared->Prop}{s:Shared}{scope:Scope}{globals:Addr}{cl:List (Str×Addr)}{qual:Str}{env:Env}{Q:Env->Shared->Prop}
  (h:Q {scope:=scope,locals:=s.heap.objs.size,globals:=globals,cells:=cellsFrom (s.heap.objs.size+1) scope.names cl,qual:=qual,func:=none,code:=env.code,frame:=env.frame,builtins:=env.builtins} {s with heap:=pushCells (s.heap.push {cls:=.type "dict",data:=.dict #[]}) scope.names}) :
  wpAny M A (newFunctionEnv scope globals cl [] qual none .none (some env)) Q E s:=by
 simp only[newFunctionEnv,Option.isSome_some,if_true];refine D6 (wpAny_alloc ?_);refine D6 (wpAny_layCells _ (fun name kind cells=>by cases hkc:kind==NameKind.cell<;>simp[hkc]) _ _ _ _ ?_);rw[show({s with heap:=s.heap.push {cls:=.type "dict",data:=.dict #[]}}:Shared).heap.objs.size=s.heap.objs.size+1 from Heap.size_push ..];rw[List.forIn_nil];exact D6 (ES (ES h))
end
theorem fA{env:Env}:∀{names:List (Str×NameKind)}{x:Str},names.lookup x=some .free ->
  (names.map fun(n,k)=>if(k==NameKind.free&&env.scope.kind== .function&&env.kindOf n==some .cell)then(n,NameKind.cell)else(n,k)).lookup x=some .cell \/
  (names.map fun(n,k)=>if(k==NameKind.free&&env.scope.kind== .function&&env.kindOf n==some .cell)then(n,NameKind.cell)else(n,k)).lookup x=some .free
 | [],_,h=>by simp at h
 | (n,k)::r,x,h=>by
  have ih:= @fA env r x;show List.lookup x ((if(k==NameKind.free&&env.scope.kind== .function&&env.kindOf n==some .cell)=true then(n,NameKind.cell)else(n,k))::_)=_\/List.lookup x ((if(k==NameKind.free&&env.scope.kind== .function&&env.kindOf n==some .cell)=true then(n,NameKind.cell)else(n,k))::_)=_;cases hx:x==n with
  | true =>
   simp only[Ea,hx]at h;cases h
   by_cases hc:(NameKind.free==NameKind.free&&env.scope.kind== .function&&env.kindOf n==some .cell)=true
   ·left;rw[D3 hc];simp only[Ea,hx]
   ·right;rw[Dz hc];simp only[Ea,hx]
  | false =>
   simp only[Ea,hx]at h
   by_cases hc:(k==NameKind.free&&env.scope.kind== .function&&env.kindOf n==some .cell)=true
   ·rw[D3 hc];simp only[Ea,hx];exact ih h
   ·rw[Dz hc];simp only[Ea,hx];exact ih h
section
variable{X:Cx}{pins:List (Addr×Obj)}{σ:St}{H:Hp}{s:Shared}
theorem oU{N' :List Str}{src:List (Option Nat)}{scope:Scope}{D C:Addr}{fp:List Addr}{cl:List (Str×Addr)}{h₁:Heap}{m:Str->Option Value}{tk:Nat}(I:Inv X pins σ H s)(hkind:scope.kind=.function)(k:rV X scope C cl)
  (hfree:∀y∈scope.names,y.2=.free->∃c,X.env.cells.lookup y.1=some c) (hsrc:bA X scope N' src) (hf:∀b∈fp,gG X pins H b) (hlt:∀b∈fp,b<s.heap.objs.size)
  (hD:D=s.heap.objs.size) (hC:s.heap.objs.size<C) (hns:h₁.Ns C m) (old:∀b o,s.heap.get? b=some o->h₁.get? b=some o) (hacc:h₁.get? D=some {cls:=.type "list",data:=.seq #[]})
  (hce:∀x c,cl.lookup x=some c->C<c->∃v,h₁.IsCell c v) :
  Inv (aw X N' scope C s H fp cl) [] (az src σ) (upd H D (.lst [])) {s with heap:=h₁,toks:=tk}:=by
 have hn:H D=none:=by rw[hD];exact I.hok.fresh (Dx _)
 have ok:=xm (N' :=N') I hkind k hfree (FR hC) hf hlt;have hDC:D≠C:=by rw[hD];exact EI hC
 refine⟨ok,rfl,I.bare,Un.laid old (by rw[hD];exact Dx _) hn,⟨m,hns,fun j x v h1 h2 h3=> ?_⟩,fun x c e=> ?_,?_,fun x c e=> ?_,fun p hp=>(by cases hp),I.hok.laid old (by rw[hD];exact Dx _) ?_,?_⟩
 ·obtain⟨i,e1,e2,e3,e4⟩:=hsrc.at h1 h2
  obtain⟨m0,_,hl⟩:=I.loc;obtain⟨u,r,l⟩:=hl i x v e1 e2 (.inr e4);refine⟨u,r,?_⟩;obtain⟨own,hcl,o1,o2,o3⟩:=k.ex;have hown:own.lookup x=none:=by
   cases z:own.lookup x with
   | none=>rfl
   | some c =>
    have:=(o1 x c (ER z)).2;rw[e3]at this;cases this
  obtain⟨c',hc'⟩:=fT (env:=X.env) (l:=scope.names) (acc:=[]) (x:=x) (.inl (ER e3));have hcX:X.env.cells.lookup x=some c' :=by
   rcases cz hfree hc' with q|q
   ·cases q
   ·exact q
  have hcl' :cl.lookup x=some c' :=by rw[hcl,FF,hown];exact hc'
  rcases l with⟨hk,_⟩|⟨hk,c,hc,hcl2⟩
  ·have hk' :X.env.scope.names.lookup x=some .local:=hk
   rcases e4 with e4|e4
   ·rw[hk']at e4;cases e4
   ·rw[hk']at e4;cases e4
  ·have ec:c' =c:=EJ (hcX.symm.trans hc)
   subst ec
   right
   exact⟨fA e3,c',hcl',hcl2.keeps old⟩
 ·rcases k.sub hfree (show cl.lookup x=some c from e)with q|q
  ·exact hce x c e q.1
  ·obtain⟨v,z⟩:=I.cell x c q.2
   exact⟨v,z.keeps old⟩
 ·show upd H D (.lst []) C=none
  rw[aB (Fd hDC)];exact I.hok.fresh (FR hC)
 ·show upd H D (.lst []) c=none
  rcases k.sub hfree (show cl.lookup x=some c from e)with q|q
  ·have:s.heap.objs.size<c:=FQ hC q.1
   rw[aB (by rw[hD];exact Fi this)];exact I.hok.fresh (FR this)
  ·obtain⟨v,z⟩:=I.cell x c q.2
   rw[aB (by rw[hD];exact EI z.lt)];exact I.freeC x c q.2
 ·exact⟨EY _,[],0,.nil,hacc⟩
 ·show(src.map _).length=N'.length
  rw[Dp];exact hsrc.len
theorem dz.but{P:Program}{w:World}{H:Hp}{h h' :Heap}(x:dz P w H h)(k:∀b u,H b≠none->h.get? b=some u->h'.get? b=some u):dz P w H h' :=fun a o e =>
 (x a o e).stay (fun b u hb q=>k b u (by rcases hb with rfl|hb;(rw[e];simp);(rw[hb];simp)) q) (fun _ q=>q) fun _ _ q=>q
noncomputable def cv(sc scope:Scope):Bool:=scope.names.all fun y=> !(y.2==NameKind.free)||(sc.names.lookup y.1==some .cell||sc.names.lookup y.1==some .free)
theorem uh{sc scope:Scope}(h:cv sc scope=true):∀y∈scope.names,y.2=.free->(sc.names.lookup y.1=some .cell\/sc.names.lookup y.1=some .free):=fun y hy hf=>by
 have z:=EG.mp h y hy;rw[hf]at z
 simpa using z
theorem pV{use:Option (Value->Sem Unit)}{P:Value->Shared->Prop}{Q:VK}{elt target iter:Expr}{ifs:List Expr}{scope:Scope}{pos:Pos}{N' :List Str}{src:List (Option Nat)}{wi:TI}(hc:X.calm=true)(hi:PI X target iter wi)(hsrc:bA X scope N' src)
  (hkind:scope.kind=.function) (hcell:∀y∈scope.names,y.2=.cell->scope.names.lookup y.1=some .cell) (hnames:∀y∈scope.names,y.2=.local->scope.names.lookup y.1=some .local)
  (hfr:cv X.env.scope scope=true)
  (hs:∀x,foldedSetIterable iter X.env x=pure x) (I:Inv X pins σ H s) (h:Bp X N' src scope target ifs elt wi σ H Q)
  (fin:∀(C a:Addr)(s2 s4:Shared)(H2 H3:Hp)(fp:List Addr)(cl:List (Str×Addr))(m:Str->Option Value),Inv X pins σ H2 s2->(∀b∈fp,gG X pins H2 b)->(∀b,b<s2.heap.objs.size->b≠C)->s2.heap.objs.size<=C->Inv (aw X N' scope C s2 H2 fp cl) [] (az src σ) H3 s4->s4.heap.Ns C m->Q (.ref a) H3->∀v,compPost (model X.prog X.w) X.A X.xe use P (.ref a) C (.ok v) s4) :
  wpAny (model X.prog X.w) X.A (comprehension (.ListComp elt [⟨target,iter,ifs,0⟩] scope pos) scope X.env (firstIterPos [⟨target,iter,ifs,0⟩] pos) (newList []) (firstAsync [⟨target,iter,ifs,0⟩]) (firstIter [⟨target,iter,ifs,0⟩] X.env) use) P X.xe s:=by
 have hfree:∀y∈scope.names,y.2=.free->∃c,X.env.cells.lookup y.1=some c:=fun y hy hf=>I.ok.has y.1 (uh hfr y hy hf);refine wpAny_comprehension_free (use:=use) rfl hs (oX hfree) hkind hnames ?_;refine aj (hi pins s σ H _ I h) fun xv s1 h1=>aj h1 fun itv s2 h2=> ?_;obtain⟨it,fp,tn,J,H2,e,I2,T,st2,f2,q⟩:=h2;subst e;have hlt:∀b∈fp,b<s2.heap.objs.size:=fun b hb=>by
  obtain⟨o,e,_⟩:=T.obj _ _ st2 b hb;exact EA e
 refine wpAny_newObj_type (uq ?_);dsimp only
 generalize hH2:s2.heap.push {cls:=.type "list",dict:=none,data:=.seq ([]:List Value).toArray}=G2
 have hC:G2.objs.size=s2.heap.objs.size+1:=by rw[<- hH2,Heap.size_push]
 have hCle:s2.heap.objs.size<=G2.objs.size:=by rw[hC];exact Nat.le_succ _
 have hClt:s2.heap.objs.size<G2.objs.size:=by rw[hC];exact Nat.lt_succ_self _
 have below:∀b,b<s2.heap.objs.size->b≠G2.objs.size:=fun b hb=>by rw[hC];exact EI (Ew hb)
 obtain⟨cl,hcl0⟩:∃cl,cl=cellsFrom (G2.objs.size+1) scope.names (fU X.env scope.names []):=⟨_,rfl⟩;obtain⟨h₁,hh₁⟩:∃h₁,h₁=pushCells (G2.push {cls:=.type "dict",data:=.dict #[]}) scope.names:=⟨_,rfl⟩;rw[<- hcl0,<-hh₁];have hfr2:(G2.push {cls:=.type "dict",data:=.dict #[]}).objs.size=G2.objs.size+1:=Heap.size_push ..;have kcl:rV X scope G2.objs.size cl:=by rw[hcl0];exact xw hcell _ hfr2
 have hns₁:h₁.Ns G2.objs.size (fun _=>none):=by rw[hh₁];exact(Heap.Ns.new G2 (.type "dict")).keeps (pushCells_keeps _ _)
 have old:∀b o,s2.heap.get? b=some o->h₁.get? b=some o:=fun b o e=>by rw[hh₁];exact pushCells_keeps _ _ b o (Dr _ (hH2▸Dr _ e))
 have hacc:h₁.get? s2.heap.objs.size=some {cls:=.type "list",data:=.seq #[]}:=by rw[hh₁];exact pushCells_keeps _ _ _ _ (Dr _ (hH2▸EB _ rfl))
 have hce:∀x c,cl.lookup x=some c->G2.objs.size<c->∃v,h₁.IsCell c v:=fun x c e hlt' =>by
  have okc:=cellsFrom_ok scope.names (G2.push {cls:=.type "dict",data:=.dict #[]}) (G2.objs.size+1) [] ⟨fun _ _ hm=>(nomatch hm),List.Pairwise.nil⟩ (by rw[hfr2];exact Dx _);rw[hfr2]at okc;have e1:cl=cellsFrom (G2.objs.size+1) scope.names []++fU X.env scope.names []:=by rw[hcl0,<-bU];rfl
  rw[e1,FF]at e;cases z:(cellsFrom (G2.objs.size+1) scope.names []).lookup x with
  | some c' =>
   rw[z]at e;cases e;exact⟨none,by rw[hh₁];exact(okc.empty x c (ER z)).1⟩
  | none =>
   rw[z]at e
   rcases cz hfree e with q|q
   ·cases q
   ·obtain⟨v,zc⟩:=I2.cell x c q
    exact absurd (FQ zc.lt hClt) (Nat.not_lt.mpr (FR hlt'))
 have hDn:H2 s2.heap.objs.size=none:=I2.hok.fresh (Dx _);obtain⟨W,⟨m0,w0⟩,turn⟩:=q s2.heap.objs.size hDn;have st1:tn 0 h₁:=T.keep _ _ _ st2 fun b hb o e=>old b o e;have hsub:∀b∈fp,b∉oM X.stack:=fun b hb hz=>by
  rcases D8.mp (I2.stkSub b hz)with z|z
  ·exact(f2 b hb).2.1 z
  ·exact(f2 b hb).2.2.1 z
 have hcl:∀x c,cl.lookup x=some c->G2.objs.size<c\/X.env.cells.lookup x=some c:=fun x c e=>by
  rcases kcl.sub hfree e with q|q
  ·exact .inl q.1
  ·exact .inr q.2
 have stat:∀{H' :Hp},(∀b∈fp,H' b=none)->∀b∈fp,gG (aw X N' scope G2.objs.size s2 H2 fp cl) [] H' b:=fun hn b hb =>
  ⟨hn b hb,below b (hlt b hb),hsub b hb,.inl hb,fun x c e=>(by rcases hcl x c e with q|q;(exact fun z=>absurd (FQ (hlt b hb) (FQ hClt q)) (by rw[z];exact FL _));exact(f2 b hb).2.2.2.2.1 x c q),fun p hp=>by cases hp⟩
 have loop:∀s3:Shared,s3={s2 with heap:=h₁} ->
   codeAny (model X.prog X.w) X.A (.compLoop (.ListComp elt [⟨target,iter,ifs,0⟩] scope pos) 0 (.ref it) (.ref s2.heap.objs.size) (compEnvC scope cl G2.objs.size X.env))
    (compPost (model X.prog X.w) X.A X.xe use P (.ref s2.heap.objs.size) G2.objs.size) s3:=by
  rintro s3 rfl
  refine kn (fun n s' =>∃i ys H',Inv (aw X N' scope G2.objs.size s2 H2 fp cl) [] (az src σ) H' s' /\tn i s'.heap/\(∀b∈fp,H' b=none)/\W i n ys H') ?_ m0
   ⟨0,[],_,oU I2 hkind kcl hfree hsrc f2 hlt rfl hClt hns₁ old hacc hce,st1,fun b hb=>by rw[aB (EI (hlt b hb))];exact(f2 b hb).1,w0⟩
  rintro n s' ⟨i,ys,H3,I3,st3,fr3,w3⟩
  rcases turn i n ys H3 w3 with⟨stop,qn⟩|⟨go,step⟩
  ·refine aj (T.done (aw X N' scope G2.objs.size s2 H2 fp cl) rfl rfl rfl hc i [] s' _ H3 _ I3 (stat fr3) st3 stop) fun r s4 hpq=> ?_
   obtain⟨hr,I4⟩:=hpq;subst hr;obtain⟨m,hn,_⟩:=I4.loc;exact fin _ _ s2 s4 H2 H3 fp cl m I2 f2 below hCle I4 hn qn _
  ·refine aj (T.item (aw X N' scope G2.objs.size s2 H2 fp cl) rfl rfl rfl hc i [] s' _ H3 _ I3 (stat fr3) st3 go) fun r s4 hpq=> ?_
   obtain⟨u,hr,h4⟩:=hpq;subst hr;refine aj h4 fun _ s5 hpq=> ?_;obtain⟨x,H5,I5,r5,y5,st5,fr5⟩:=hpq;obtain⟨g,tt,te,hg,ht,he,rd⟩:=step x H5 y5 G2.objs.size s2 H2 fp cl;have I5' :=I5.pinned (stat fr5) (T.obj _ _ st5);have noE:∀{α:Type}{t:Sem α}{Q' :α->Shared->Prop}{s' :Shared}{E:Value->Shared->Prop},wpAny (model X.prog X.w) X.A t Q' (fun _ _=>False) s' ->wpAny (model X.prog X.w) X.A t Q' E s' :=fun z=>FB z (fun _ _ y=>y) fun _ _ y=>y.elim
   have again:∀{σ7:St}{H7:Hp}{s7:Shared}{ys' :List V},Inv (aw X N' scope G2.objs.size s2 H2 fp cl) ([]++iB fp s5.heap) σ7 H7 s7->(σ7.length=N'.length/\∀(j:Nat)(v:V),(az src σ)[j]? =some (some v)->σ7[j]? =some (some v)) ->
     (∃m',m' <n/\W (i+1) m' ys' H7)->∃m,m<n/\∃i ys H',Inv (aw X N' scope G2.objs.size s2 H2 fp cl) [] (az src σ) H' s7/\tn i s7.heap/\(∀b∈fp,H' b=none)/\W i m ys H' :=fun{σ7 H7 s7 ys'} I7 hσ ⟨m',hm,w7⟩=>by
    refine⟨m',hm,i+1,ys',H7,(I7.unpinned).weak (by rw[show(az src σ).length=N'.length by(show(src.map _).length=_;rw[Dp];exact hsrc.len)];exact hσ.1.symm) hσ.2,T.keep _ _ _ st5 fun b hb o e=>(I7.pin (b,o) (EM _ (EM _ (dE hb e)))).1,fun b hb=> ?_,w7⟩;obtain⟨o,e,d⟩:=T.obj _ _ st5 b hb;exact(I7.pin (b,o) (EM _ (EM _ (dE hb e)))).2.1
   refine noE (aj (hg _ s5 _ H5 x u _ I5' r5 rd) fun _ s6 hpq=> ?_);obtain⟨σ6,H6,I6,hσ,q6⟩:=hpq;refine noE (aj (ht _ s6 σ6 H6 _ I6 q6) fun b s7 hpq=> ?_);obtain⟨H7,I7,q7⟩:=hpq;cases b with
   | false=>exact again I7 hσ q7
   | true =>
    rw[D3 rfl]at q7 ⊢;refine noE (aj (he _ s7 σ6 H7 _ I7 q7) fun y s8 hpq=> ?_);obtain⟨v,H8,I8,r8,hl8,hz8,q8⟩:=hpq;refine noE (aj (ja _ s8 σ6 H8 (.ref s2.heap.objs.size) [v] (.ref s2.heap.objs.size) [y] (fun _ H9=>∃m',m' <n/\W (i+1) m' (ys++[v]) H9) I8 rfl (.cons r8 .nil) ⟨_,_,_,rfl,rfl,hl8,hz8,q8⟩) fun _ s9 hpq=> ?_);obtain⟨_,H9,I9,_,q9⟩:=hpq;exact again I9 hσ q9
 exact codeAny_compStart_list (loop _ rfl) (T.self X.A 0 _ _ _ st1 (loop _ rfl))
theorem tj{elt target iter:Expr}{ifs:List Expr}{scope:Scope}{pos:Pos}{N' :List Str}{src:List (Option Nat)}{wi:TI}(hc:X.calm=true)(hi:PI X target iter wi)(hsrc:bA X scope N' src)
  (hkind:scope.kind=.function) (hcell:∀y∈scope.names,y.2=.cell->scope.names.lookup y.1=some .cell) (hnames:∀y∈scope.names,y.2=.local->scope.names.lookup y.1=some .local)
  (hfr:cv X.env.scope scope=true)
  (hs:∀x,foldedSetIterable iter X.env x=pure x:=by intro _;rfl) :
  PE X (.ListComp elt [⟨target,iter,ifs,0⟩] scope pos) (Bp X N' src scope target ifs elt wi):=by
 intro pins s σ H Q I h;rw[eval_ListComp];refine pV hc hi hsrc hkind hcell hnames hfr hs I h fun C a s2 s4 H2 H3 fp cl m I2 f2 below hCle I4 hn qn _=> ?_;refine⟨m,hn,fun h' hs' => ?_⟩;have ne:∀b o,s2.heap.get? b=some o->b≠C:=fun b o e=>below b (EA e);have hfree4:H3 C=none:=I4.free;have u4:Un (oM X.stack) fp H2 H3 s2.heap s4.heap:=I4.base
 have u5:Un (oM X.stack) fp H2 H3 s2.heap h' :=⟨fun b o e n z1 z2=>(hs'.2 b (ne b o e)).trans (u4.keep b o e n z1 z2),fun b o e n z1 z2=>let⟨sl,z⟩:=u4.slot b o e n z1 z2;⟨sl,(hs'.2 b (ne b o e)).trans z⟩,u4.free,
  fun b o e z=>let⟨o',z'⟩:=u4.there b o e z;⟨o',(hs'.2 b (ne b o e)).trans z'⟩,u4.tups,u4.frzs,u4.tbls⟩
 have hok:dz X.prog X.w H3 h' :=dz.but (h:=s4.heap) I4.hok fun b u hb z=>(hs'.2 b (fun w=>hb (by rw[w];exact hfree4))).trans z;exact⟨.ref a,H3,I2.call' (s' :={s4 with heap:=h'}) (ch:=fp) I4.os u5 hok I4.bare fun b hb=>⟨(f2 b hb).2.2.2.1,(f2 b hb).2.1,(f2 b hb).2.2.2.2.1,(f2 b hb).2.2.2.2.2⟩,rfl,qn⟩
end
section
variable{X:Cx}
theorem all_range(bs:List Bool):(List.range bs.length).all (fun i=>bs.getD i true)=bs.all id:=by
 rw[FH,EG,EG]
 constructor
 ·intro h b hb
  obtain⟨i,hi,e⟩:=Fu.mp hb;have z:=h i (Eb.mpr hi);rw[Dt,Dw hi,e]at z;exact z
 ·intro h i hi
  have hi' :=Eb.mp hi;rw[Dt,Dw hi'];exact h _ (Fq hi')
theorem nT{bs:List Bool}{us:List Value}(r:aQ (bs.map V.bl) us){i:Nat}{v:Value}(e:us[i]? =some v):v=.bool (bs.getD i true):=by
 have hl:=r.length;rw[Dp]at hl;have hi:i<us.length:=(D1.mp e).1;have hb:(bs.map V.bl)[i]? =some (.bl (bs.getD i true)):=by
  rw[D7,Dt,Dw (by omega)];rfl
 obtain⟨u,e',ru⟩:=r.get hb;rw[e]at e';cases e';exact ru
theorem nD(hc:X.calm=true):bI X (.builtin "all") (fun xs H Q=>∃(p:Addr)(bs:List Bool),xs=[.ref p]/\bJ X.K H p (bs.map V.bl)/\Q (.bl (bs.all id)) H):=by
 intro pins s σ H xs us Q I r h;obtain⟨p,bs,rfl,hq,q⟩:=h;obtain⟨u,rfl,rx⟩:=vals1 r;cases rx;obtain⟨its,r',pl,hz⟩:=I.list hq;have hlen:=r'.length;rw[Dp]at hlen;have hp:p<s.heap.objs.size:=by
  obtain⟨o,e,_⟩:=pl.isList;exact EA e
 refine call_all_walk (wpAny_pyIter_list pl.isList ?_);refine⟨s.heap.objs.size,_,_,its.toArray.size,_,_,(fun i=>bs.getD i true),rfl,Walks.list (A:=X.A.in1) (I.ok.hd hc) s.heap.objs.size p (EI hp) its.toArray,⟨⟨_,EB _ rfl,rfl,rfl⟩,pl.isList.push _⟩,?_,?_⟩
 ·intro i v s' Q' E' hv hQ
  have e:=nT r' (i:=i) (v:=v) (by simpa using hv);subst e;exact FA hQ
 ·intro h' tk hk
  refine⟨.bl (bs.all id),H,I.kept (t' :=tk) (fun b o e=>hk b o (by simpa using EI (EA e)) (Dr _ e)),?_,q⟩;rw[D9,<-hlen,all_range];rfl
theorem eJ:∀{ys:List Str}{us:List Value},aQ (ys.map V.str) us->StrsAre us ys
 | [],_,r=>by
  rw[FK]at r;cases r;exact .nil
 | y::ys,_,r=>by
  rw[D2]at r;cases r with
  | cons r1 r2 =>
   obtain⟨t,e⟩:=r1;subst e;exact .cons y t (eJ r2)
noncomputable def Cg(K:W.Frag):V->List V->Hp->VK->Prop:=fun x vs H Q=>∃sep p ys,x=.str sep/\vs=[.ref p]/\(bJ K H p (ys.map V.str)\/cJ K H p (ys.map V.str))/\(ys.map (·.length)).sum+ys.length*sep.length<=16777216/\Q (.str (Txt.join sep ys)) H
theorem xB:MtR X "str.join" (Cg X.K):=by
 intro pins s σ H x xs v us Q I rx rs h;obtain⟨sep,p,ys,rfl,rfl,hq,hz,q⟩:=h;obtain⟨t,rfl⟩:=rx;obtain⟨u,rfl,ru⟩:=vals1 rs;cases ru
 rcases hq with hq|hq
 ·obtain⟨its,r,pl,_⟩:=I.list hq
  exact join_list pl.isList (eJ (by simpa using r)) hz fun t' k=>⟨.str (Txt.join sep ys),H,I.tok _,⟨_,rfl⟩,q⟩
 ·obtain⟨its,r,pl,_⟩:=I.tuple hq
  exact join_tuple pl (eJ (by simpa using r)) hz fun t' k=>⟨.str (Txt.join sep ys),H,I.tok _,⟨_,rfl⟩,q⟩
noncomputable def Dj(x:Str):It:=⟨fun i _=>i<x.cps.size,fun i H v H' =>H' =H/\∃c,x.cps[i]? =some c/\v=.str ⟨#[c]⟩,fun i _=>i=x.cps.size⟩
noncomputable def iStr(tl:TE):TI:=fun σ H R=>tl σ H fun x H1=>∃z,x=.str z/\R (Dj z) H1
theorem eG{P:Program}{w:World}{K:W.Frag}{tg:Expr}{it:Addr}{n:Nat}{Pw:Nat->Value->Prop}{tn:Nat->Heap->Prop}{J:It}(hW:∀A:Around,A.handled=none->Walks P w A it [it] [it] n Pw tn)
  (hob:∀i h,tn i h->∃(o:Obj)(ty:String)(vs:Array Value),h.get? it=some o/\o.cls=.type ty/\o.data=.fields vs/\["enumerate","zip","dict_itemiterator","dict_reverseitemiterator","odict_iterator","itertools.zip_longest","itertools.pairwise"].contains ty=false)
  (hgo:∀i H,J.go i H->i<n) (hst:∀i H,J.stop i H->i=n) (hy:∀i H v,Pw i v->∃x,RelV x v/\J.yld i H x H)
  (hself:∀(A:Around)(i:Nat)(s:Shared)(Q:Value->Shared->Prop)(E:Value->Shared->Prop),tn i s.heap->Q (.ref it) s->wpAny (model P w) A (pyIter (.ref it)) Q E s):oq P w K tg J [it] it tn where
 mem:=by simp
 obj:=fun i h st b hb=>by
  have e:b=it:=by simpa using hb
  subst e;obtain⟨o,ty,vs,e,_,d,_⟩:=hob i h st;exact⟨o,e,fun v z=>by rw[d]at z;cases z⟩
 keep:=fun i h h' st k=>(hW {callerA with handled:=none} rfl).frame i h h' st k
 item:=by
  intro X hP hw hK hc i pins s σ H E I hf st hg;subst hP hw hK;obtain⟨f0,f1,f2,f3,f4,f5⟩:=hf it (by simp);refine(hW X.A (I.ok.hd hc)).item i s _ _ (hgo i H hg) st fun v h' tk hv st' kk=> ?_;obtain⟨x,rx,y⟩:=hy i H v hv;have I1:Inv X pins σ H {s with heap:=h',toks:=tk}:=I.turned (fun b o hb e=>kk b o (by simpa using hb) e) f0 f1 f3 f4 f5;obtain⟨o,ty,vs,e,c,d,nc⟩:=hob (i+1) h' st';exact⟨_,rfl,pZ (s:={s with heap:=h',toks:=tk}) e c d nc ⟨x,H,I1,rx,y,st',fun b hb=>(hf b hb).1⟩⟩
 done:=by
  intro X hP hw hK hc i pins s σ H E I hf st hg;subst hP hw hK;obtain⟨f0,f1,f2,f3,f4,f5⟩:=hf it (by simp);have e:=hst i H hg;subst e;exact(hW X.A (I.ok.hd hc)).done s _ _ st fun h' tk kk=>⟨rfl,I.turned (fun b o hb e=>kk b o (by simpa using hb) e) f0 f1 f3 f4 f5⟩
 self:=hself
theorem zw{tg:Expr}{l:Expr}{tl:TE}(hl:PE X l tl):PI X tg l (iStr tl):=by
 intro pins s σ H R I h;refine aj (hl pins s σ H _ I h) fun v s1 hpq=> ?_;obtain⟨x,H1,I1,r1,q1⟩:=hpq;obtain⟨z,rfl,q⟩:=q1;obtain⟨t,rfl⟩:=r1;have fp:∀b∈[s1.heap.objs.size],gG X pins H1 b:=fun b hb=>by
  have e:b=s1.heap.objs.size:=by simpa using hb
  subst e;exact I1.fpOk (Dx _) (I1.hok.fresh (Dx _))
 have yl:∀(i:Nat)(H:Hp)(v:Value),SignAt z i v->∃x,RelV x v/\(Dj z).yld i H x H:=fun i H v hv=>by
  obtain⟨c,u,e,rfl⟩:=hv;exact⟨.str ⟨#[c]⟩,⟨_,rfl⟩,rfl,c,e,rfl⟩
 cases ha:z.cps.all (·<128)with
 | false =>
  refine wpAny_pyIter_wide ha ?_
  refine⟨s1.heap.objs.size,[s1.heap.objs.size],fun i h=>h.IsStrIter s1.heap.objs.size "str_iterator" z t i,Dj z,H1,rfl,I1.kept (t' :=s1.toks) fun b o e=>Dr _ e,
   eG (fun A hA=>Walks.strWide hA _ z t) (fun i h st=> ?_) (fun i H g=>g) (fun i H g=>g) yl (fun A i s Q E st h=>wpAny_pyIter_striter_wide st h),⟨_,EB _ rfl,rfl,rfl⟩,fp,q⟩
  obtain⟨o,e,c,d⟩:=st;exact⟨o,_,_,e,c,d,by decide⟩
 | true =>
  refine wpAny_pyIter_ascii ha ?_
  refine⟨s1.heap.objs.size,[s1.heap.objs.size],fun i h=>h.IsStrIter s1.heap.objs.size "str_ascii_iterator" z t i,Dj z,H1,rfl,I1.kept (t' :=s1.toks) fun b o e=>Dr _ e,
   eG (fun A hA=>Walks.strAscii hA _ z t) (fun i h st=> ?_) (fun i H g=>g) (fun i H g=>g) yl (fun A i s Q E st h=>wpAny_pyIter_striter_ascii st h),⟨_,EB _ rfl,rfl,rfl⟩,fp,q⟩
  obtain⟨o,e,c,d⟩:=st;exact⟨o,_,_,e,c,d,by decide⟩
noncomputable def Itc(lo c:Int)(n:Nat):It:=⟨fun i _=>i<n,fun i H x H' =>H' =H/\x=.int (lo+i*c),fun i _=>i=n⟩
noncomputable def C2(ta:TA):TI:=fun σ H R=>ta σ H fun vs H1=>∃i j c:Int,vs=[.int i,.int j,.int c]/\c≠0/\c.natAbs<1073741824/\Builtin.Range.small i j c=true/\R (Itc i c (Builtin.Range.rangeSize i j c).toNat) H1
theorem kK(i j c:Int):0<=Builtin.Range.rangeSize i j c:=by
 unfold Builtin.Range.rangeSize
 split
 ·split
  ·have:=Int.ediv_nonneg (a:=j-i-1) (b:=c) (by omega) (by omega)
   omega
  ·exact Fh _
 ·split
  ·by_cases hc:c=0
   ·subst hc
    simp
   ·have:=Int.ediv_nonneg (a:=i-j-1) (b:= -c) (by omega) (by omega)
    omega
  ·exact Fh _
theorem qW{tg:Expr}{a b c:Expr}{ta:TA}{p pos:Pos}(hg:Gl X "range")(hm:X.mg "range"=none)(ha:PA X [a,b,c] ta)(hs:starEach [a,b,c] X.env=(false,eval a X.env)::starEach [b,c] X.env:=by rfl)
  (hs2:(backTo pos (starEach [b,c] X.env)).any (·.1)=false:=by rfl):PI X tg (.Call (.Name "range" p) [a,b,c] [] pos) (C2 ta):=by
 intro pins s σ H R I h;refine Call_ (dZ I hg hm boot_range (El (aj (ha pos pins s σ H _ I h) fun us s1 ⟨vs,H1,I1,r1,q1⟩=> ?_) hs hs2));obtain⟨i,j,k,e,hk,hk2,hsm,q⟩:=q1;subst e;cases r1 with
 | cons r rr =>
  cases rr with
  | cons r' rr =>
   cases rr with
   | cons r'' rr =>
    cases rr;obtain⟨t,rfl⟩:=r;obtain⟨t',rfl⟩:=r';obtain⟨t'',rfl⟩:=r'';refine call_range_3 hk ?_ (.inl (PyProof.noPylong_small hk2));refine wpAny_pyIter_range (IsRange.new ..) hsm ?_;have I2:Inv X pins σ H1 {s1 with heap:=s1.heap.push {cls:=.type "range",data:=.fields #[.int i t,.int j t',.int k t'']}}:=I1.kept (t' :=s1.toks) fun b o e=>Dr _ e
    refine⟨_,[_],_,_,H1,rfl,I2.kept (t' :=s1.toks) fun b o e=>Dr _ e,
     eG (fun A hA=>Walks.range hA _ i k (Builtin.Range.rangeSize i j k).toNat) (fun m h st=>⟨_,_,_,st,rfl,rfl,by decide⟩) (fun m H g=>g) (fun m H g=>g) (fun m H v hv=> ?_) (fun A m s Q E st h=>wpAny_pyIter_rangeiter st h),?_,fun b hb=> ?_,q⟩
    ·obtain⟨u,rfl⟩:=hv
     exact⟨.int (i+m*k),⟨_,rfl⟩,rfl,rfl⟩
    ·have e1:i+((0:Nat):Int)*k=i:=by simp
     have e2:(((Builtin.Range.rangeSize i j k).toNat:Nat):Int)-((0:Nat):Int)=Builtin.Range.rangeSize i j k:=by
      have:=kK i j k;omega
     show IsRangeIter _ _ (i+((0:Nat):Int)*k) ((((Builtin.Range.rangeSize i j k).toNat:Nat):Int)-((0:Nat):Int)) k;rw[e1,e2];exact EB _ rfl
    ·have e:b=(s1.heap.push {cls:=.type "range",data:=.fields #[.int i t,.int j t',.int k t'']}).objs.size:=by simpa using hb
     subst e;exact I2.fpOk (Dx _) (I2.hok.fresh (Dx _))
theorem Inv.drew{pins:List (Addr×Obj)}{σ:St}{H:Hp}{s:Shared}{h' :Heap}{fp:List Addr}{p:Addr}{o:HO}{t' :Nat}(I:Inv X pins σ H s)(hf:∀b∈fp,gG X pins H b)(k:∀b ob,b∉fp->s.heap.get? b=some ob->h'.get? b=some ob)
  (hp:s.heap.objs.size<=p) (new:ar X.prog X.w (upd H p o) h' p o):Inv X pins σ (upd H p o) {s with heap:=h',toks:=t'}:=by
 have ne:∀b u,H b=some u->b≠p:=fun b u e=>EI (ET (I.hok.lt e) hp);have nf:∀b u,H b=some u->b∉fp:=fun b u e hb=>by rw[(hf b hb).1]at e;cases e
 refine I.step (g' :=s.gens) (d' :=s.drawn) (ch:=fp) (fun b hb=>⟨(hf b hb).2.2.2.1,(hf b hb).2.1,(hf b hb).2.2.2.2.1,(hf b hb).2.2.2.2.2⟩) (fun b ob _ _ hc e _=>k b ob hc e) (fun b ob _ _ hc e _=>⟨ob.slots,k b ob hc e⟩)
  (fun b ob hc e n=>by rw[aB (EI (ET (EA e) hp))];exact n) (fun b ob hc e=>⟨ob,k b ob hc e⟩) (fun b xs e=>by rw[aB (ne b _ e)];exact e) (fun b ob u e=>by rw[aB (ne b _ e)];exact e)
  (fun b ps e=>⟨#[],by rw[aB (ne b _ e),e];simp⟩) (fun m hm=> ?_) (fun b u e=> ?_) I.bare
 ·obtain⟨ob,es,ep,ho,r⟩:=hm
  exact⟨ob,es,ep,k _ _ (fun hb=>(hf _ hb).2.1 rfl) ho,r⟩
 ·by_cases hb:b=p
  ·subst hb
   rw[aD]at e;cases e;exact new
  ·rw[aB hb]at e
   refine(I.hok b u e).stay (fun c v hc q=>k c v ?_ q) (fun c q=>by rw[aB (ne c _ q)];exact q) (fun c xs q=>by rw[aB (ne c _ q)];exact q)
   rcases hc with rfl|hc
   ·exact nf _ _ e
   ·exact nf _ _ hc
theorem Inv.drew0{pins:List (Addr×Obj)}{σ:St}{H:Hp}{s:Shared}{h' :Heap}{fp:List Addr}{t' :Nat}(I:Inv X pins σ H s)(hf:∀b∈fp,gG X pins H b)(k:∀b ob,b∉fp->s.heap.get? b=some ob->h'.get? b=some ob) :
  Inv X pins σ H {s with heap:=h',toks:=t'}:=by
 have nf:∀b u,H b=some u->b∉fp:=fun b u e hb=>by rw[(hf b hb).1]at e;cases e
 refine I.step (g' :=s.gens) (d' :=s.drawn) (ch:=fp) (fun b hb=>⟨(hf b hb).2.2.2.1,(hf b hb).2.1,(hf b hb).2.2.2.2.1,(hf b hb).2.2.2.2.2⟩) (fun b ob _ _ hc e _=>k b ob hc e) (fun b ob _ _ hc e _=>⟨ob.slots,k b ob hc e⟩)
  (fun b ob hc e n=>n) (fun b ob hc e=>⟨ob,k b ob hc e⟩) (fun b xs e=>e) (fun b ob u e=>e) (fun b ps e=>⟨#[],by rw[e];simp⟩) (fun m hm=> ?_) (fun b u e=> ?_) I.bare
 ·obtain⟨ob,es,ep,ho,r⟩:=hm
  exact⟨ob,es,ep,k _ _ (fun hb=>(hf _ hb).2.1 rfl) ho,r⟩
 ·refine(I.hok b u e).stay (fun c v hc q=>k c v ?_ q) (fun c q=>q) (fun c xs q=>q)
  rcases hc with rfl|hc
  ·exact nf _ _ e
  ·exact nf _ _ hc
theorem uD:dw X (binaryOp .FloorDiv) (rI (fun _ j=>0<j/\j.natAbs.log2<9000) fun i j=>.int (i/j)):=Cu fun i j _ _ _ _ _ hc q=>by
 have h1:(0:Int)<j:=hc.1;exact floordiv_int (by omega) (by rw[Int.fdiv_eq_ediv_of_nonneg i (by omega)];exact q) (.inl (PyProof.noPylong_of_log2 hc.2))
end
theorem aC.tup{K:W.Frag}{H H' :Hp}{a:Addr}{xs:List V}(e:aC H H')(h:cJ K H a xs):cJ K H' a xs:=by
 rcases h with(h|⟨o,h⟩)|h
 ·exact .inl (.inl (e _ _ h))
 ·exact .inl (.inr ⟨o,e _ _ h⟩)
 ·exact .inr h
theorem aJ{H:Hp}{p:Addr}(h:H p=none)(o:HO):aC H (upd H p o):=fun b u q=>by rw[aB (aG q h)];exact q
theorem aC.upd{H H' :Hp}{D:Addr}{o:HO}(e:aC H H')(h:H D=none):aC H (upd H' D o):=fun b u q=>by rw[aB (aG q h)];exact e b u q
noncomputable def bm(z:Str):List V:=z.cps.toList.map fun c=>V.str ⟨#[c]⟩
theorem g0(z:Str):(bm z).length=z.length:=by
 unfold bm;rw[Dp,EQ];rfl
noncomputable def yj(n:Nat):List V:=(List.range n).map fun i=>V.int (i:Nat)
section
variable{X:Cx}{N' :List Str}{scope:Scope}{elt:Expr}{σ:St}{H1:Hp}{J:It}{xs:List V}
theorem nG{r:List (Option Nat)}{σ:St}{x:V}(h:r.length+1=N'.length) :
  ((az (none::r) σ).set 0 (some x)).length=N'.length/\∀(j:Nat)(v:V),(az (none::r) σ)[j]? =some (some v)->((az (none::r) σ).set 0 (some x))[j]? =some (some v):=by
 refine⟨by rw[Ex];simp[az,h],fun j v e=> ?_⟩;cases j with
 | zero=>simp[az]at e
 | succ j=>simpa [az]using e
end
structure Bl(K:W.Frag)(mg:Str->Option Value)(x:Str)(st:Stmt)(ps:List Str)(f:Addr)(fd:FuncData):Prop where
 fn:Bw K x x st f fd
 nm:mg x=some (.ref f)
 bd:Binds K fd ps []
section
variable{K:W.Frag}
end
noncomputable def Cz:V->Nat
 | .str z=>z.length
 | _=>0
noncomputable def pH(K:W.Frag):Sp:=fun vs H Q _=>∃(a:Addr)(ns:List Int),vs=[.ref a]/\bJ K H a (ns.map V.int)/\ns.length<=63/\∀H',Q (.bl true) H'
theorem tU{α:Type}(l:List α):(List.range l.length).filterMap (l[·]?)=l:=by
 have h:=StrLaws.picks l l.length 0 (by omega);rw[List.drop_zero,Es]at h;have e:(List.range l.length).map (fun k=>0+k)=List.range l.length:=by
  rw[show(fun k:Nat=>0+k)=id from by funext k;simp];simp
 rw[e]at h;exact h
theorem qT(n:Nat):sliceRange ((n:Int)-1) (-1) (-1)=(List.range n).map fun k=>n-1-k:=by
 unfold sliceRange;have c:((if(n:Int)-1> -1 then((n:Int)-1- -1- -1-1)/(- -1)else 0):Int).toNat=n:=by
  have d:(- -1:Int)=1:=rfl;rw[d,Int.ediv_one]
  split<;>omega
 simp only[show¬((-1:Int)>0)by decide,if_false,c];refine Ep fun k hk=> ?_;have:=Eb.mp hk;omega
theorem mh{α β:Type}{f g:α->Option β}:∀(l:List α),(∀x∈l,f x=g x)->l.filterMap f=l.filterMap g
 | [],_=>rfl
 | x::l,h=>by
  rw[Fa,Fa,h x Ds,mh l fun y hy=>h y (Dq _ hy)]
theorem lu{α:Type}(l:List α):(sliceRange ((l.length:Int)-1) (-1) (-1)).filterMap (l[·]?)=l.reverse:=by
 rw[qT,List.filterMap_map];have e:=tU l.reverse;rw[Fz]at e;refine Eq.trans ?_ e;refine mh _ fun k hk=> ?_;have hk' :=Eb.mp hk;show l[l.length-1-k]? =l.reverse[k]?;rw[List.getElem?_reverse hk']
section
variable{X:Cx}{e st:Expr}{te ts:TE}{pos p2:Pos}
noncomputable def RvR(X:Cx)(r:V->Hp->VK->Prop):Prop :=
 ∀(pins:List (Addr×Obj))(s:Shared)(σ:St)(H:Hp)(x:V)(v:Value)(t:Tok)(sl:Addr)(Q:VK),Inv X pins σ H s->RelV x v->s.heap.IsSliceOf sl .none .none (.int (-1) t)->r x H Q ->
  ∃T id,typeLookup (.type T) "__getitem__"=pure (some (.builtin id))/\s.TypeIs v T/\wpAny (model X.prog X.w) X.A (getItem v (.ref sl)) (EP X pins σ Q) X.xe s
noncomputable def tRev(r:V->Hp->VK->Prop)(te ts:TE):TE:=fun σ H Q=>te σ H fun x H1=>ts σ H1 fun y H2=>y=.int (-1)/\r x H2 Q
theorem zy{r:V->Hp->VK->Prop}(hr:RvR X r)(he:PE X e te)(hs:PE X st ts):PE X (.Subscript e (.Slice none none (some st) p2) pos) (tRev r te ts):=by
 intro pins s σ H Q I h;refine Subscript_ (aj (he pins s σ H _ I h) fun v s1 hpq=> ?_);obtain⟨x,H1,I1,r1,q1⟩:=hpq;refine wpAny_Slice ?_;rw[evalPart_none];refine ES (ES ?_);rw[evalPart_some];refine aj (hs pins s1 σ H1 _ I1 q1) fun u s2 hpq=> ?_;obtain⟨y,H2,I2,r2,ey,q2⟩:=hpq;subst ey;obtain⟨t,rfl⟩:=r2;have I3:Inv X pins σ H2 {s2 with heap:=s2.heap.push {cls:=.type "slice",data:=.fields #[.none,.none,.int (-1) t]}}:=I2.kept (t' :=s2.toks) fun b ob q=>Dr _ q;obtain⟨T,id,hT,ht,hg⟩:=hr pins {s2 with heap:=s2.heap.push {cls:=.type "slice",data:=.fields #[.none,.none,.int (-1) t]}} σ H2 x v t s2.heap.objs.size Q I3 r1 (Heap.IsSliceOf.new ..) q2;show wpAny (model X.prog X.w) X.A (subscriptTail e (.Slice none none (some st) p2) v (.ref s2.heap.objs.size)) (EP X pins σ Q) X.xe {s2 with heap:=s2.heap.push {cls:=.type "slice",data:=.fields #[.none,.none,.int (-1) t]}};exact tail_any (ops:=[v,.ref s2.heap.objs.size]) ht hT hg (by with_unfolding_all rfl)
noncomputable def rRvL(K:W.Frag):V->Hp->VK->Prop:=fun x H Q=>∃a xs,x=.ref a/\bJ K H a xs/\∀p,H p=none->Q (.ref p) (upd H p (.lst xs.reverse))
theorem wG:RvR X (rRvL X.K):=by
 intro pins s σ H x v t sl Q I rx hs h;obtain⟨a,xs,rfl,hx,q⟩:=h;cases rx;obtain⟨its,r,ht,hz⟩:=I.list hx;have hlen:=r.length;refine⟨"list",_,slot_list_getitem.lookup,ht.isList.typeIs,?_⟩;refine wpAny_getItem_list_slice ht.isList hs .none .none (.int (-1) t) (by simp) ?_ (by rw[D9]<;>omega);have e:slicePick its.toArray none none (some (-1))=its.reverse.toArray:=by
  unfold slicePick sliceBounds;simp only[Option.getD_some,show¬((-1:Int)>0)by decide,if_false,D9];have z:=lu its;have f:(fun(k:Nat)=>its.toArray[k]?)=fun k=>its[k]? :=by funext k;simp
  rw[f,z]
 rw[e];refine⟨.ref s.heap.objs.size,_,I.laid (t' :=s.toks) (o:=.lst xs.reverse) (fun b ob q=>Dr _ q) (Dx _) ?_,rfl,q _ (I.hok.fresh (Dx _))⟩;exact⟨by rw[Fz];exact hz,_,0,r.reverse,EB _ rfl⟩
noncomputable def rRvS:V->Hp->VK->Prop:=fun x H Q=>∃z,x=.str z/\z.length<=sizeLine/\Q (.str ⟨z.cps.toList.reverse.toArray⟩) H
theorem zY:RvR X rRvS:=by
 intro pins s σ H x v t sl Q I rx hs h;obtain⟨z,rfl,hz,q⟩:=h;obtain⟨t',rfl⟩:=rx;refine⟨"str",_,slot_str_getitem.lookup,typeIs_str _ _ _,?_⟩;refine wpAny_getItem_str_slice (l:=none) (u:=none) (st:=some (-1,t)) hs rfl ?_;have e:sliceMade z t' none none (some (-1,t))=.str ⟨z.cps.toList.reverse.toArray⟩:=by
  unfold sliceMade;rw[Dz (by simp)];unfold slicePicked Builtin.Str.strSliceIndices;simp only[Option.map_none,FG,Option.getD_some,show¬((-1:Int)>0)by decide,if_false];have y:=lu z.cps.toList;have f:(fun(k:Nat)=>z.cps[k]?)=fun k=>z.cps.toList[k]? :=by funext k;simp
  have l:z.cps.toList.length=z.length:=by rw[EQ];rfl
  rw[l]at y;rw[f,y]
 rw[e];refine⟨?_,⟨.str ⟨z.cps.toList.reverse.toArray⟩,H,I.tok _,⟨_,rfl⟩,q⟩⟩;show z.cps.toList.reverse.toArray.size<=sizeLine;rw[D9,Fz,EQ];exact hz
end
section
variable{κ:Type}[DecidableEq κ]
noncomputable def dN(kvs:List (κ×V))(k:κ):Option V:=(kvs.find? fun kv=>decide (kv.1=k)).map (·.2)
noncomputable def cW(kvs:List (κ×V))(k:κ)(v:V):List (κ×V) :=
 if(kvs.any fun kv=>decide (kv.1=k))=true then kvs.map (fun kv=>if kv.1=k then(kv.1,v)else kv)else kvs++[(k,v)]
theorem eX{p:κ×V}{r:List (κ×V)}{k:κ}(e:p.1=k):dN (p::r) k=some p.2:=by simp[dN,Ed,e]
theorem eY{p:κ×V}{r:List (κ×V)}{k:κ}(e:¬p.1=k):dN (p::r) k=dN r k:=by simp[dN,Ed,e]
theorem lY(k:κ):∀kvs:List (κ×V),(kvs.any fun kv=>decide (kv.1=k))=(dN kvs k).isSome
 | []=>rfl
 | p::r=>by
  rw[Fb]
  by_cases e:p.1=k
  ·simp only[eX e,EX e,Bool.true_or,Option.isSome_some]
  ·rw[eY e,EV e,Bool.false_or];exact lY k r
theorem dY(kvs:List (κ×V))(k:κ)(v:V):(cW kvs k v).length<=kvs.length+1:=by
 unfold cW
 split
 ·rw[Dp];omega
 ·rw[EC,ED,Fv];omega
theorem gk.isSome_eq{o:Option V}{u:Option Value}(r:gk o u):o.isSome=u.isSome:=by
 cases o with
 | none=>cases u with
  | none=>rfl
  | some _=>exact(show False from r).elim
 | some _=>cases u with
  | none=>exact(show False from r).elim
  | some _=>rfl
theorem gk.getD{o:Option V}{u:Option Value}{d:V}{d' :Value}(r:gk o u)(rd:RelV d d'):RelV (o.getD d) (u.getD d'):=by
 cases o with
 | none=>cases u with
  | none=>exact rd
  | some _=>exact(show False from r).elim
 | some _=>cases u with
  | none=>exact(show False from r).elim
  | some _=>exact r
theorem KV.val{kvs:List (κ×V)}{vs:List (κ×Value)}(r:KV kvs vs)(k:κ):gk (dN kvs k) (valueAt vs k):=by
 unfold KV at r
 induction r with
 | nil=>exact True.intro
 | @cons p q ps qs h t ih =>
  obtain⟨h1,h2⟩:=h
  by_cases e:p.1=k
  ·have e' :q.1=k:=h1.symm.trans e
   have b:valueAt (q::qs) k=some q.2:=by simp[valueAt,Ed,e']
   rw[eX e,b];exact h2
  ·have e' :¬q.1=k:=fun z=>e (h1.trans z)
   have b:valueAt (q::qs) k=valueAt qs k:=by simp[valueAt,Ed,e']
   rw[eY e,b];exact ih
theorem KV.any{kvs:List (κ×V)}{vs:List (κ×Value)}(r:KV kvs vs)(k:κ):(kvs.any fun kv=>decide (kv.1=k))=vs.any fun kv=>decide (kv.1=k):=by
 unfold KV at r
 induction r with
 | nil=>rfl
 | cons h t ih=>rw[Fb,Fb,ih,h.1]
theorem KV.repl{kvs:List (κ×V)}{vs:List (κ×Value)}(r:KV kvs vs)(k:κ){y:V}{u:Value}(ry:RelV y u) :
  KV (kvs.map fun kv=>if kv.1=k then(kv.1,y)else kv) (vs.map fun kv=>if kv.1=k then(kv.1,u)else kv):=by
 unfold KV at r ⊢
 induction r with
 | nil=>exact .nil
 | @cons p q ps qs h t ih =>
  rw[D2,D2];refine .cons ?_ ih;obtain⟨h1,h2⟩:=h
  by_cases e:p.1=k
  ·rw[D3 e,D3 (h1.symm.trans e)];exact⟨h1,ry⟩
  ·rw[Dz e,Dz (fun z=>e (h1.trans z))];exact⟨h1,h2⟩
theorem KV.put{kvs:List (κ×V)}{vs:List (κ×Value)}(r:KV kvs vs)(k:κ){y:V}{u:Value}(ry:RelV y u):KV (cW kvs k y) (stored vs k u):=by
 unfold cW stored;rw[r.any k]
 by_cases e:(vs.any fun kv=>decide (kv.1=k))=true
 ·rw[D3 e,D3 e];exact r.repl k ry
 ·rw[Dz e,Dz e];exact Paired.snoc r ⟨rfl,ry⟩
theorem KV.length{kvs:List (κ×V)}{vs:List (κ×Value)}(r:KV kvs vs):kvs.length=vs.length:=Paired.length r
end
theorem je{P:Program}{w:World}{k:ac}{u:Value}(r:RelV (kV k) u):(aU P w).is k u=true:=by
 cases k with
 | inl i=>obtain⟨t,e⟩:=(show∃t,u=Value.int i t from r);subst e;exact mN P w i t
 | inr x=>obtain⟨t,e⟩:=(show∃t,u=Value.str x t from r);subst e;exact mM P w x t
theorem jf{P:Program}{w:World}:∀{ks:List ac}{us:List Value},aQ (ks.map kV) us->ItemsAre (aU P w) ks us
 | [],_,r=>by rw[FK]at r;cases r;exact .nil
 | k::ks,_,r=>by
  rw[D2]at r;cases r with
  | cons h t=>exact .cons (je h) (jf t)
noncomputable abbrev KT(H:Hp):List (List ac×V)->List (List ac×Addr×Value)->Prop:=Paired fun p q=>p.1=q.1/\H q.2.1=some (.tup (p.1.map kV))/\RelV p.2 q.2.2
theorem KT.val{H:Hp}{kvs:List (List ac×V)}{xs:List (List ac×Addr×Value)}(r:KT H kvs xs)(k:List ac):gk (dN kvs k) ((atKey xs k).map (·.2)):=by
 induction r with
 | nil=>exact True.intro
 | @cons p q ps qs h t ih =>
  obtain⟨h1,_,h2⟩:=h
  by_cases e:p.1=k
  ·have e' :q.1=k:=h1.symm.trans e
   have b:atKey (q::qs) k=some q.2:=by simp[atKey,Ed,e']
   rw[eX e,b];exact h2
  ·have e' :¬q.1=k:=fun z=>e (h1.trans z)
   have b:atKey (q::qs) k=atKey qs k:=by simp[atKey,Ed,e']
   rw[eY e,b];exact ih
theorem KT.repl{H:Hp}{kvs:List (List ac×V)}{xs:List (List ac×Addr×Value)}(r:KT H kvs xs)(k:List ac){y:V}{u:Value}(ry:RelV y u) :
  KT H (kvs.map fun kv=>if kv.1=k then(kv.1,y)else kv) (xs.map (putAt k u)):=by
 induction r with
 | nil=>exact .nil
 | @cons p q ps qs h t ih =>
  rw[D2,D2];refine .cons ?_ ih;obtain⟨h1,h2,h3⟩:=h;unfold putAt
  by_cases e:p.1=k
  ·rw[D3 e,D3 (h1.symm.trans e)];exact⟨h1,h2,ry⟩
  ·rw[Dz e,Dz (fun z=>e (h1.trans z))];exact⟨h1,h2,h3⟩
theorem KT.put{H:Hp}{kvs:List (List ac×V)}{xs:List (List ac×Addr×Value)}(r:KT H kvs xs)(k:List ac){b:Addr}{y:V}{u:Value}(hb:H b=some (.tup (k.map kV)))(ry:RelV y u) :
  KT H (cW kvs k y) (storedH xs k b u):=by
 have e:(kvs.any fun kv=>decide (kv.1=k))=(atKey xs k).isSome:=by
  rw[lY,(r.val k).isSome_eq,Option.isSome_map]
 unfold cW storedH;rw[e]
 by_cases q:(atKey xs k).isSome=true
 ·rw[D3 q,D3 q];exact r.repl k ry
 ·rw[Dz q,Dz q];exact Paired.snoc r ⟨rfl,hb,ry⟩
theorem KT.keeps{H H' :Hp}{kvs:List (List ac×V)}{xs:List (List ac×Addr×Value)}(r:KT H kvs xs)(ht:∀b ys,H b=some (.tup ys)->H' b=some (.tup ys)):KT H' kvs xs :=
 Paired.mapP r fun _ _ z=>⟨z.1,ht _ _ z.2.1,z.2.2⟩
section
variable{P:Program}{w:World}{H:Hp}{h:Heap}{a:Addr}
theorem yW{u:HO}(ok:dz P w H h)(e:Rd H a u):ar P w H h a u:=e.ok ok
theorem gY{kvs:List (ac×V)}(ok:dz P w H h)(e:Rd H a (.dK kvs)):kvs.length<=sizeLine/\(a==sysModules)=false/\∃vs,KV kvs vs/\h.DictOf (aU P w) a vs :=
 show ar P w H h a (.dK kvs)from yW ok e
theorem jk{kvs:List (ac×V)}(ok:dz P w H h)(e:H a=some (.dK kvs)):kvs.length<=sizeLine/\(a==sysModules)=false/\∃vs,KV kvs vs/\h.DictOf (aU P w) a vs:=gY ok (.inl e)
theorem iO{ks:List ac}(ok:dz P w H h)(e:H a=some (.tup (ks.map kV))):(tupleKind (aU P w)).is h ks a:=by
 obtain⟨_,its,r,o,h1,h2,n,h3,_⟩:=(show ar P w H h a (.tup (ks.map kV))from ok a _ e);exact⟨o,its.toArray,n,h1,h2,h3,by simpa using jf r⟩
theorem jj{kvs:List (List ac×V)}(ok:dz P w H h)(e:Rd H a (.dT kvs)):kvs.length<=sizeLine/\(a==sysModules)=false /\
  ∃xs,KT H kvs xs/\h.DictOfH (tupleKind (aU P w)) a xs:=by
 obtain⟨z,y,xs,r,o,es,ep,h1,h2,h3,h4,h5⟩:=(show ar P w H h a (.dT kvs)from yW ok e);refine⟨z,y,xs,r,o,es,ep,h1,h2,h3,h4,fun x hx=> ?_,h5⟩;have all:∀{l:List (List ac×V)}{m:List (List ac×Addr×Value)},KT H l m->∀x∈m,(tupleKind (aU P w)).is h x.1 x.2.1:=by
  intro l m q
  induction q with
  | nil=>intro x hx;exact nomatch hx
  | @cons p q ps qs hq t ih =>
   intro x hx
   rcases D8.mp hx with e|hx
   ·subst e
    exact iO ok (by rw[<- hq.1];exact hq.2.1)
   ·exact ih x hx
 exact all r x hx
theorem DB{kvs:List (List ac×V)}(ok:dz P w H h)(e:H a=some (.dT kvs)):kvs.length<=sizeLine/\(a==sysModules)=false /\
  ∃xs,KT H kvs xs/\h.DictOfH (tupleKind (aU P w)) a xs:=jj ok (.inl e)
end
noncomputable def d8(H:Hp)(a:Addr)(y:V)(r:Option V):Prop :=
 (∃kvs k,Rd H a (.dK kvs)/\y=kV k/\r=dN kvs k)\/∃kvs k b,Rd H a (.dT kvs)/\y=.ref b/\H b=some (.tup (k.map kV))/\r=dN kvs k
noncomputable def o4(H:Hp)(a:Addr)(y v:V)(H' :Hp):Prop :=
 (∃kvs k,H a=some (.dK kvs)/\y=kV k/\kvs.length<sizeLine/\H' =upd H a (.dK (cW kvs k v))) \/
 ∃kvs k b,H a=some (.dT kvs)/\y=.ref b/\H b=some (.tup (k.map kV))/\kvs.length<sizeLine/\H' =upd H a (.dT (cW kvs k v))
theorem d8.k{H:Hp}{a:Addr}{kvs:List (ac×V)}{k:ac}(e:H a=some (.dK kvs)):d8 H a (kV k) (dN kvs k):=.inl ⟨kvs,k,.inl e,rfl,rfl⟩
theorem d8.t{H:Hp}{a b:Addr}{kvs:List (List ac×V)}{k:List ac}(e:H a=some (.dT kvs))(eb:H b=some (.tup (k.map kV))):d8 H a (.ref b) (dN kvs k):=.inr ⟨kvs,k,b,.inl e,rfl,eb,rfl⟩
theorem o4.k{H:Hp}{a:Addr}{kvs:List (ac×V)}{k:ac}{v:V}(e:H a=some (.dK kvs))(hl:kvs.length<sizeLine):o4 H a (kV k) v (upd H a (.dK (cW kvs k v))):=.inl ⟨kvs,k,e,rfl,hl,rfl⟩
theorem o4.t{H:Hp}{a b:Addr}{kvs:List (List ac×V)}{k:List ac}{v:V}(e:H a=some (.dT kvs))(eb:H b=some (.tup (k.map kV)))(hl:kvs.length<sizeLine) :
  o4 H a (.ref b) v (upd H a (.dT (cW kvs k v))):=.inr ⟨kvs,k,b,e,rfl,eb,hl,rfl⟩
section
variable{X:Cx}{pins:List (Addr×Obj)}{σ:St}{H:Hp}{s:Shared}{a:Addr}{y v:V}{u r:Value}{o:Option V}{A:Around}{E:Value->Shared->Prop}
theorem Inv.big(I:Inv X pins σ H s):sysModules<s.heap.objs.size:=by
 have h:mainGlobals<s.heap.objs.size:=(I.mod.glob.keeps I.bk).lt;exact FQ (by decide) h
theorem rE{Q:Value->Shared->Prop}(hu:A.units+1<cLine)(I:Inv X pins σ H s)(g:d8 H a y (some v))(ry:RelV y u)(h:∀w' s',Inv X pins σ H s' ->RelV v w' ->Q w' s') :
  wpAny (model X.prog X.w) A (getItem (.ref a) u) Q E s:=by
 rcases g with⟨kvs,k,e,ey,l⟩|⟨kvs,k,b,e,ey,eb,l⟩
 ·subst ey
  obtain⟨z,hd,vs,rel,dd⟩:=gY I.hok e;obtain⟨w',hw,rw'⟩:=gk.some_of (v:=v) (o:=valueAt vs k) (by rw[l];exact rel.val k);exact wpAny_getItem_of (je ry) dd.mapOf hw (h w' _ (I.tok _) rw')
 ·subst ey
  cases(show u=Value.ref b from ry);obtain⟨z,hd,xs,rel,dd⟩:=jj I.hok e;obtain⟨w',hw,rw'⟩:=gk.some_of (v:=v) (o:=(atKey xs k).map (·.2)) (by rw[l];exact rel.val k);obtain⟨p,hp,hp2⟩:=Option.map_eq_some_iff.mp hw;refine wpAny_getItem_heap (GB hu) (iO I.hok eb) dd hp ?_;rw[hp2];exact h w' _ (I.tok _) rw'
theorem xj{Q:Value->Shared->Prop}(hu:A.units+1<cLine)(I:Inv X pins σ H s)(g:d8 H a y o)(ry:RelV y u)(h:∀s',Inv X pins σ H s' ->Q (.bool (!o.isSome)) s') :
  wpAny (model X.prog X.w) A (compareOp .NotIn u (.ref a)) Q E s:=by
 rcases g with⟨kvs,k,e,ey,l⟩|⟨kvs,k,b,e,ey,eb,l⟩
 ·subst ey
  obtain⟨z,hd,vs,rel,dd⟩:=gY I.hok e;refine wpAny_notIn_of (je ry) hd dd.mapOf ?_;rw[<- (rel.val k).isSome_eq,<-l];exact h _ (I.tok _)
 ·subst ey
  cases(show u=Value.ref b from ry);obtain⟨z,hd,xs,rel,dd⟩:=jj I.hok e;refine wpAny_notIn_heap (GB hu) (iO I.hok eb) hd dd ?_;have q:=(rel.val k).isSome_eq;rw[Option.isSome_map]at q;rw[<- q,<-l];exact h _ (I.tok _)
theorem kl{h' :Heap}{t' :Nat}{ob:HO}(I:Inv X pins σ H s)(mu:Dg (H a))(hs:Heap.SameBut a s.heap h')(he:∃q,h'.get? a=some q)(new:ar X.prog X.w (upd H a ob) h' a ob) :
  Inv X pins σ (upd H a ob) {s with heap:=h',toks:=t'} :=
 I.write (x:=a) (e:=a) mu (.inl rfl) (fun b q hb z=>(hs.2 b hb).trans z) he new
theorem oR{P:Program}{w:World}{H' :Hp}{h' :Heap}{kvs:List (ac×V)}{vs:List (ac×Value)}(z:kvs.length<=sizeLine)(hd:(a==sysModules)=false)(rel:KV kvs vs)(dd:h'.DictOf (aU P w) a vs) :
  ar P w H' h' a (.dK kvs):=⟨z,hd,vs,rel,dd⟩
theorem rD{H' :Hp}{Q:Unit->Shared->Prop}(hu:A.units+1<cLine)(I:Inv X pins σ H s)(g:o4 H a y v H')(ry:RelV y u)(rv:RelV v r)(h:∀s',Inv X pins σ H' s' ->Q () s') :
  wpAny (model X.prog X.w) A (setItem (.ref a) u r) Q E s:=by
 rcases g with⟨kvs,k,e,ey,l,eH⟩|⟨kvs,k,b,e,ey,eb,l,eH⟩
 ·subst ey eH
  obtain⟨z,hd,vs,rel,dd⟩:=jk I.hok e;have hz:vs.length<=sizeLine:=by rw[<- rel.length];exact z
  have hl:(cW kvs k v).length<=sizeLine:=by have:=dY kvs k v;omega
  refine wpAny_setItem_pairs (hsz:=hz) (je ry) dd fun h' dd' hs=>h _ ?_;have he:∃q,h'.get? a=some q:=let⟨q,_,_,hq,_⟩:=dd';⟨q,hq⟩
  exact kl I (by rw[e];exact True.intro) hs he (oR hl hd (rel.put k rv) dd')
 ·subst ey eH
  cases(show u=Value.ref b from ry);obtain⟨z,hd,xs,rel,dd⟩:=DB I.hok e;have hz:xs.length<=sizeLine:=by rw[<- Paired.length rel];exact z
  have hl:(cW kvs k v).length<=sizeLine:=by have:=dY kvs k v;omega
  refine wpAny_setItem_heap (hsz:=hz) (GB hu) (iO I.hok eb) dd fun h' dd' hs=>h _ ?_;obtain⟨q,es,ep,hq,h2,h3,h4,_,h5⟩:=dd';refine kl I (by rw[e];exact True.intro) hs ⟨q,hq⟩ ⟨hl,hd,_,(rel.put k eb rv).keeps fun c ys ec=> ?_,q,es,ep,hq,h2,h3,h4,h5⟩;rw[aB (Cv ec e (fun z=>nomatch z))];exact ec
end
section
variable{X:Cx}{pins:List (Addr×Obj)}{σ:St}{H:Hp}{s:Shared}{a:Addr}{kvs:List (ac×V)}{k:ac}{u:Value}{A:Around}{E:Value->Shared->Prop}
theorem DD{Q:Value->Shared->Prop}(I:Inv X pins σ H s)(e:Rd H a (.dK kvs))(h:∀t s',Inv X pins σ H s' ->Q (.int kvs.length t) s'):wpAny (model X.prog X.w) A (call (.builtin "len") [.ref a]) Q E s:=by
 obtain⟨z,hd,vs,rel,dd⟩:=gY I.hok e;refine call_len_dict hd dd (by rw[<- rel.length];rw[Ej]at z;omega) ?_;rw[<- rel.length];exact h _ _ (I.tok _)
end
noncomputable def Be(i:Expr):Prop:=∀ov iv,subscripted i false ov iv=operate [ov,iv] (getItem ov iv)
theorem v8{prog:Program}{w:World}{A:Around}{E:Value->Shared->Prop}{s:Shared}{env:Env}{value slice:Expr}{pos:Pos}{T id:String}{Q:Value->Shared->Prop}
  (hl:typeLookup (.type T) "__getitem__"=pure (some (.builtin id))) (hs:Be slice)
  (h:wpAny (model prog w) A (eval value env) (fun o s₁=>wpAny (model prog w) A (eval slice env) (fun i s₂=>s₂.TypeIs o T/\wpAny (model prog w) A (getItem o i) Q E s₂) E s₁) E s) :
  wpAny (model prog w) A (eval (.Subscript value slice pos) env) Q E s:=by
 refine Subscript_ (FB h (fun o s₁ h₁=>FB h₁ (fun i s₂ h₂=> ?_) fun _ _ x=>x) fun _ _ x=>x);obtain⟨hT,h₂⟩:=h₂;unfold subscriptTail;refine D6 ?_;rw[getitemInPython_of_ne hT.not_modules];refine D6 (wpAny_specialOf hT hl ?_);have fin:wpAny (model prog w) A (subscripted slice false o i) (fun r s₃=>wpAny (model prog w) A (letTemporaryGo value o r >>= fun _=>pure r) Q E s₃) E s₂:=by
  rw[hs o i];exact wpAny_operating (FB h₂ (fun r s₃ h₃=>D6 (wpAny_letTemporaryGo (ES h₃))) fun _ _ x=>x)
 first
  | exact ES (D6 fin)
  | exact D6 (ES (D6 fin))
  | exact D6 fin
theorem mr{X:Cx}{pins:List (Addr×Obj)}{σ:St}{H:Hp}{s:Shared}{a:Addr}{y:V}{o:Option V}(I:Inv X pins σ H s)(g:d8 H a y o):s.TypeIs (.ref a) "dict":=by
 rcases g with⟨kvs,k,e,_,_⟩|⟨kvs,k,b,e,_,_,_⟩
 ·obtain⟨_,_,vs,_,dd⟩:=gY I.hok e
  exact dd.typeIs
 ·obtain⟨_,_,xs,_,dd⟩:=jj I.hok e
  exact dd.typeIs
noncomputable def CI(td ty:TE):TE:=fun σ H Q=>td σ H fun x H1=>ty σ H1 fun y H2=>∃a v,x=.ref a/\d8 H2 a y (some v)/\Q v H2
noncomputable def v5(ty td:TE):TE:=fun σ H Q=>ty σ H fun y H1=>td σ H1 fun x H2=>∃a o,x=.ref a/\d8 H2 a y o/\Q (.bl (!o.isSome)) H2
noncomputable def Cc(td ty tv:TE):TS:=fun D σ H=>tv σ H fun v H1=>td σ H1 fun x H2=>ty σ H2 fun y H3=>∃a H4,x=.ref a/\o4 H3 a y v H4/\D.nx σ H4
section
variable{X:Cx}{o i e value:Expr}{pos pos' tpos:Pos}{td ty tv:TE}
theorem pO(hu:X.A.units+1<cLine)(ho:PE X o td)(hi:PE X i ty)(hs:Be i):PE X (.Subscript o i pos) (CI td ty):=by
 intro pins s σ H Q I h;refine v8 PySem.F.slot_dict_getitem.lookup hs (aj (ho pins s σ H _ I h) fun u s1 ⟨x,H1,I1,rx,q1⟩=>aj (hi pins s1 σ H1 _ I1 q1) fun iv s2 hpq=> ?_);obtain⟨y,H2,I2,ry,a,v,ex,g,q2⟩:=hpq;subst ex;obtain rfl:u=Value.ref a:=rx;exact⟨mr I2 g,rE hu I2 g ry fun w' s3 I3 rw' =>⟨v,H2,I3,rw',q2⟩⟩
theorem jW(hu:X.A.units+1<cLine)(hi:PE X i ty)(ho:PE X o td):PC X .NotIn i o (v5 ty td):=by
 intro pins s σ H Q I h;refine aj (hi pins s σ H _ I h) fun iv s1 ⟨y,H1,I1,ry,q1⟩=>aj (ho pins s1 σ H1 _ I1 q1) fun u s2 hpq=> ?_;obtain⟨x,H2,I2,rx,a,ov,ex,g,q2⟩:=hpq;subst ex;obtain rfl:u=Value.ref a:=rx;exact xj hu I2 g ry fun s3 I3=>⟨.bl (!ov.isSome),H2,I3,rfl,q2⟩
theorem kM(hu:X.A.units+1<cLine)(ho:PE X o td)(hi:PE X i ty)(hv:PE X value tv)(hs:swapsWith value (some (.Subscript o i pos')) pos.line X.env=pure false) :
  PS X (.Assign [.Subscript o i pos'] value pos) (Cc td ty tv):=by
 intro pins s σ H D I h;refine wpAny_Assign_Subscript (aj (hv pins s σ H _ I h) fun r s1 ⟨v,H1,I1,rv,q1⟩=>aj (ho pins s1 σ H1 _ I1 q1) fun u s2 ⟨x,H2,I2,rx,q2⟩=>aj (hi pins s2 σ H2 _ I2 q2) fun iv s3 ⟨y,H3,I3,ry,a,H4,ex,g,q3⟩=> ?_) hs;subst ex;obtain rfl:u=Value.ref a:=rx;exact rD hu I3 g ry rv fun s4 I4=>⟨σ,H4,I4,q3⟩
end
theorem mq{P:Program}{w:World}{H:Hp}(h:Heap)(hb:sysModules<h.objs.size):ar P w H (h.push {cls:=.type "dict",data:=.dict #[]}) h.objs.size (.dK []) :=
 ⟨EY _,beq_eq_false_iff_ne.mpr (Fd (EI hb)),[],.nil,Heap.DictOf.new h⟩
noncomputable def zM:TE:=fun _ H Q=>∀p,H p=none->Q (.ref p) (upd H p (.dK []))
section
variable{X:Cx}{pos:Pos}
theorem fF:PE X (.Dict [] [] pos) zM:=fun pins s σ H Q I h =>
 wpAny_Dict_empty ⟨.ref s.heap.objs.size,_,I.laid (a:=s.heap.objs.size) (o:=.dK []) (t' :=s.toks) (fun _ _ q=>Dr _ q) (Dx _) (mq s.heap I.big),rfl,h _ (I.hok.fresh (Dx _))⟩
end
noncomputable def nh:List (TE×TE)->St->Hp->(List (V×V)->Hp->Prop)->Prop
 | [],_,H,Q=>Q [] H
 | (tk,tv)::r,σ,H,Q=>tk σ H fun x H1=>tv σ H1 fun y H2=>nh r σ H2 fun ps H3=>Q ((x,y)::ps) H3
noncomputable abbrev VV:List (V×V)->List (Value×Value)->Prop:=Paired fun p q=>RelV p.1 q.1/\RelV p.2 q.2
noncomputable def PPs(X:Cx)(pos:Pos)(keys:List (Option Expr))(values:List Expr)(trs:List (TE×TE)):Prop :=
 ∀(pins:List (Addr×Obj))(s:Shared)(σ:St)(H:Hp)(Q:List (V×V)->Hp->Prop),Inv X pins σ H s->nh trs σ H Q ->
  wpAny (model X.prog X.w) X.A (evalPairs (pairTrees keys values X.env pos)) (fun vs s' =>∃ps H',Inv X pins σ H' s' /\VV ps vs/\Q ps H') X.xe s
theorem wY{X:Cx}{pos:Pos}:PPs X pos [] [] []:=fun pins s σ H Q I h=>pairTrees_nil_walk ⟨[],H,I,.nil,h⟩
theorem tR{X:Cx}{pos:Pos}{k v:Expr}{ks:List (Option Expr)}{vs:List Expr}{tk tv:TE}{trs:List (TE×TE)}(hk:PE X k tk)(hv:PE X v tv)(hr:PPs X pos ks vs trs) :
  PPs X pos (some k::ks) (v::vs) ((tk,tv)::trs):=fun pins s σ H Q I h =>
 pairTrees_cons_walk (aj (hk pins s σ H _ I h) fun u s1 ⟨x,H1,I1,rx,q1⟩=>aj (hv pins s1 σ H1 _ I1 q1) fun w2 s2 ⟨y,H2,I2,ry,q2⟩ =>
  aj (hr pins s2 σ H2 _ I2 q2) fun ws s3 ⟨ps,H3,I3,rel,q3⟩=>⟨(x,y)::ps,H3,I3,.cons ⟨rx,ry⟩ rel,q3⟩)
noncomputable def eK(kvs more:List (ac×V)):List (ac×V):=more.foldl (fun acc kv=>cW acc kv.1 kv.2) kvs
theorem KV.merge:∀{more:List (ac×V)}{rs:List (ac×Value)}{kvs:List (ac×V)}{vs:List (ac×Value)},KV more rs->KV kvs vs->KV (eK kvs more) (merged vs rs):=by
 intro more rs kvs vs r;unfold KV at r
 induction r generalizing kvs vs with
 | nil=>intro q;exact q
 | @cons p q ps qs h t ih =>
  intro r0;have e:KV (cW kvs p.1 p.2) (stored vs q.1 q.2):=by
   have:=r0.put p.1 h.2;rw[<- h.1];exact this
  exact ih e
theorem eB:∀(more kvs:List (ac×V)),(eK kvs more).length<=kvs.length+more.length
 | [],kvs=>by show kvs.length<=kvs.length+0;omega
 | p::r,kvs=>by
  have h1:=eB r (cW kvs p.1 p.2);have h2:=dY kvs p.1 p.2;show(eK (cW kvs p.1 p.2) r).length<=_;rw[ED];omega
theorem ii{P:Program}{w:World}:∀{kvs:List (ac×V)}{ws:List (Value×Value)},VV (kvs.map fun kv=>(kV kv.1,kv.2)) ws->∃rs,Carries (aU P w) ws rs/\KV kvs rs
 | [],_,r=>by rw[FK]at r;cases r;exact⟨[],True.intro,.nil⟩
 | p::kvs,_,r=>by
  rw[D2]at r;cases r with
  | @cons a b as bs h t =>
   obtain⟨rs,c,q⟩:=ii (P:=P) (w:=w) t;obtain⟨b1,b2⟩:=b;exact⟨(p.1,b2)::rs,⟨je h.1,rfl,c⟩,.cons ⟨rfl,h.2⟩ q⟩
noncomputable def CH(trs:List (TE×TE)):TE:=fun σ H Q=>∀p,H p=none->nh trs σ (upd H p (.dK [])) fun ps H2=>H2 p=some (.dK [])/\∃kvs:List (ac×V),ps=kvs.map (fun kv=>(kV kv.1,kv.2))/\kvs.length<=15/\Q (.ref p) (upd H2 p (.dK (eK [] kvs)))
theorem wk{X:Cx}{pos:Pos}{keys:List (Option Expr)}{values:List Expr}{trs:List (TE×TE)}(h:PPs X pos keys values trs)(hall:keys.all (·.isSome)=true)(hl:keys.length=values.length)(h0:keys≠[])
  (h15:keys.length<=15):PE X (.Dict keys values pos) (CH trs):=by
 intro pins s σ H Q I q;have hn:=I.hok.fresh (Dx s.heap.objs.size);have I1:=I.laid (a:=s.heap.objs.size) (o:=.dK []) (h' :=s.heap.push {cls:=.type "dict",data:=.dict #[]}) (t' :=s.toks) (fun _ _ q=>Dr _ q) (Dx _) (mq s.heap I.big);refine wpAny_Dict_walk (knd:=aU X.prog X.w) hall hl h0 h15 (aj (h pins _ σ _ _ I1 (q _ hn)) fun ws s2 hpq=> ?_);obtain⟨ps,H2,I2,rel,e,kvs,ep,lk,q2⟩:=hpq;subst ep;obtain⟨rs,c,rk⟩:=ii (P:=X.prog) (w:=X.w) rel;obtain⟨z,hd,vs0,r0,dd⟩:=jk I2.hok e;cases r0;refine⟨rs,c,dd,fun h' dd' hs=>⟨.ref s.heap.objs.size,_,?_,rfl,q2⟩⟩;have hz:(eK [] kvs).length<=sizeLine:=by
  have h1:=eB kvs [];rw[Fv]at h1;rw[Ej];omega
 have he:∃q,h'.get? s.heap.objs.size=some q:=let⟨q,_,_,hq,_⟩:=dd';⟨q,hq⟩
 exact kl I2 (by rw[e];exact True.intro) hs he (oR hz hd (rk.merge .nil) dd')
structure M2(X:Cx)(o:Expr)(m:Str)(apos:Pos)(e f:Expr)(cpos:Pos):Prop where
 base:attributeBase o m X.env (eval o X.env)=eval o X.env
 few:((backTo cpos (starEach [e,f] X.env)).all (fun x=> !x.1)&&(backToKw cpos (keywordEach [] X.env)).all (fun x=>x.1.isSome)
  && decide (([e,f]:List Expr).length+([]:List Keyword).length+(if([]:List Keyword).isEmpty then 0 else 1)<30))=true
 line:(apos.endLine==cpos.line)=true
 trees:backTo cpos (starEach [e,f] X.env)=[(false,eval e X.env),(false,eval f X.env)]
noncomputable def IsD(H:Hp)(a:Addr):Prop:=(∃kvs,Rd H a (.dK kvs))\/∃kvs,Rd H a (.dT kvs)
theorem Ai{X:Cx}{pins:List (Addr×Obj)}{σ:St}{H:Hp}{s:Shared}{a:Addr}(I:Inv X pins σ H s)(d:IsD H a) :
  s.TypeIs (.ref a) "dict"/\(∀b,Value.ref a=.ref b->∃ob,s.heap.get? b=some ob/\ob.dict=none)/\(a==sysModules)=false:=by
 rcases d with⟨kvs,e⟩|⟨kvs,e⟩
 ·obtain⟨_,hd,vs,_,dd⟩:=gY I.hok e
  refine⟨dd.typeIs,fun b q=> ?_,hd⟩;cases q;obtain⟨ob,_,_,h1,h2,_⟩:=dd;exact⟨ob,h1,h2.2.1⟩
 ·obtain⟨_,hd,xs,_,dd⟩:=jj I.hok e
  refine⟨dd.typeIs,fun b q=> ?_,hd⟩;cases q;obtain⟨ob,_,_,h1,h2,_⟩:=dd;exact⟨ob,h1,h2.2.1⟩
section
variable{X:Cx}{pins:List (Addr×Obj)}{σ:St}{H:Hp}{s:Shared}{a:Addr}{y d:V}{u r:Value}{o:Option V}{A:Around}{E:Value->Shared->Prop}
theorem BB{Q:Value->Shared->Prop}(hu:A.units+1<cLine)(I:Inv X pins σ H s)(g:d8 H a y o)(ry:RelV y u)(rd:RelV d r)(h:∀w' s',Inv X pins σ H s' ->RelV (o.getD d) w' ->Q w' s') :
  wpAny (model X.prog X.w) A (call (.builtin "dict.get") [.ref a,u,r]) Q E s:=by
 rcases g with⟨kvs,k,e,ey,l⟩|⟨kvs,k,b,e,ey,eb,l⟩
 ·subst ey
  obtain⟨z,hd,vs,rel,dd⟩:=gY I.hok e;refine call_meetsIn PySem.F.slot_dict_get dd.typeIs PySem.F.entry_dict_get (PySem.F.args_dict_get_3 _ _ _) (meets_dict_get_default (aU X.prog X.w) a (je ry) hd r) ⟨_,dd.mapOf,h _ _ (I.tok _) ?_⟩;rw[l];exact(rel.val k).getD rd
 ·subst ey
  cases(show u=Value.ref b from ry);obtain⟨z,hd,xs,rel,dd⟩:=jj I.hok e;refine call_meetsIn PySem.F.slot_dict_get dd.typeIs PySem.F.entry_dict_get (PySem.F.args_dict_get_3 _ _ _) (meetsH_dict_get_default (tupleKind (aU X.prog X.w)) a b hd r) ⟨GB hu,k,xs,iO I.hok eb,dd,h _ _ (I.tok _) ?_⟩;rw[l];exact(rel.val k).getD rd
end
noncomputable def zN(td ty tx:TE):TE:=fun σ H Q=>td σ H fun x H1=>∃a,x=.ref a/\IsD H1 a/\ty σ H1 fun y H2=>tx σ H2 fun z H3=>∃o,d8 H3 a y o/\Q (o.getD z) H3
section
variable{X:Cx}{o e f:Expr}{apos cpos:Pos}{td ty tx:TE}
theorem tu(hu:X.A.units+1<cLine)(ho:PE X o td)(he:PE X e ty)(hf:PE X f tx)(m:M2 X o "get" apos e f cpos):PE X (.Call (.Attribute o "get" apos) [e,f] [] cpos) (zN td ty tx):=by
 intro pins s σ H Q I h;refine wpAny_Call_method m.base m.few m.line Fg PySem.F.slot_dict_get PySem.F.type_dict_get (aj (ho pins s σ H _ I h) fun u s1 hpq=> ?_);obtain⟨x,H1,I1,rx,a,ex,d,q1⟩:=hpq;subst ex;obtain rfl:u=Value.ref a:=rx;obtain⟨t1,t2,_⟩:=Ai I1 d;refine⟨t1,t2,?_⟩;rw[m.trees]
 refine Ft rfl (Calls.evalArgs_plain (Calls.spliced_cons (aj (he pins s1 σ H1 _ I1 q1) fun iv s2 ⟨y,H2,I2,ry,q2⟩ =>
  Calls.spliced_cons (aj (hf pins s2 σ H2 _ I2 q2) fun fv s3 ⟨z,H3,I3,rz,ov,g,q3⟩=>Calls.spliced_nil ?_))))
 exact BB hu I3 g ry rz fun w' s4 I4 rw' =>⟨_,H3,I4,rw',q3⟩
end
section
variable{X:Cx}{pins:List (Addr×Obj)}{σ:St}{H:Hp}{s:Shared}{a:Addr}{kvs:List (ac×V)}{A:Around}{E:Value->Shared->Prop}
theorem uw{Q:Value->Shared->Prop}(I:Inv X pins σ H s)(e:Rd H a (.dK kvs))(h:∀p s',H p=none->Inv X pins σ (upd H p (.dK kvs)) s' ->Q (.ref p) s'):wpAny (model X.prog X.w) A (call (.type "dict") [.ref a]) Q E s:=by
 obtain⟨z,hd,vs,rel,dd⟩:=gY I.hok e;refine kt_call_dict hd dd (by rw[<- rel.length];exact z) fun h' dd' hs=> ?_;refine h _ _ (I.hok.fresh (Dx _)) (I.laid (a:=s.heap.objs.size) (o:=.dK kvs) (t' :=s.toks) (fun b q hq=> ?_) (Dx _) (oR z (beq_eq_false_iff_ne.mpr (Fd (EI I.big))) rel dd'));exact(hs.2 b (EI (EA hq))).trans (Dr _ hq)
end
section
variable{X:Cx}{pins:List (Addr×Obj)}{σ:St}{H:Hp}{s:Shared}{a:Addr}{y:V}{u:Value}{A:Around}{E:Value->Shared->Prop}
end
section
variable{κ:Type}[DecidableEq κ]
end
noncomputable def txt(cs:List Nat):Str:=⟨cs.toArray⟩
theorem iQ:∀cs:List Nat,Str.join ⟨#[]⟩ (cs.map fun c=>(⟨#[c]⟩:Str))=txt cs
 | []=>rfl
 | [c]=>rfl
 | c::d::cs=>by
  have ih:=iQ (d::cs);show(⟨#[c]⟩:Str)++⟨#[]⟩++Str.join ⟨#[]⟩ ((d::cs).map fun c=>(⟨#[c]⟩:Str))=_;rw[ih]
  apply UM.v9
  rw[PySem.Str.cps_append,PySem.Str.cps_append];simp[txt]
noncomputable def cd(rows:List Str)(i j:Nat):Nat:=((rows.getD i ⟨#[]⟩).cps.toList).getD j 0
noncomputable def fl(c:Nat):Nat:=if c=120 then 46 else 120
noncomputable def Wd(rows:List Str)(w:Nat):Prop:=∀r∈rows,r.length=w
theorem DF{rows:List Str}{w i j:Nat}(hw:Wd rows w)(hi:i<rows.length)(hj:j<w):∃z,rows[i]? =some z/\z.cps.toList[j]? =some (cd rows i j)/\z.length=w:=by
 have e:rows[i]? =some rows[i]:=Dw hi;have hl:=hw rows[i] (Fq hi);have hj' :j<rows[i].cps.toList.length:=by
  rw[EQ];show j<rows[i].length;omega
 refine⟨rows[i],e,?_,hl⟩;unfold cd;rw[Dt,Dt,e,Option.getD_some,Dw hj',Option.getD_some]
open AutoSeq1 (wpAny_loadPart')
section
variable{X:Cx}
end
open AutoSeq1 (wpAny_loadPart')
section
variable{X:Cx}
end
section
variable{P:Program}{w:World}{A:Around}{E:Value->Shared->Prop}{s:Shared}
theorem AL{it a:Addr}{i:Nat}{its:Array Value}{v:Value}{Q:Value->Shared->Prop}(ti:s.heap.IsTupleIter it a i)(ta:s.heap.IsTuple a its)(hv:its[i]? =some v)
  (k:∀h',h'.IsTupleIter it a (i+1)->Heap.SameBut it s.heap h' ->Q v {s with heap:=h'}):wpAny (model P w) A (Builtin.SmallTypes.nextOf (.ref it)) Q E s:=by
 obtain⟨r,hr,rc,rd⟩:=id ti;obtain⟨q,hq,_,nq,qd⟩:=ta;unfold Builtin.SmallTypes.nextOf;refine D6 (wpAny_callSpecial?_slot (name:=Str.ofString "__next__") ti.typeIs F.slot_tuple_iterator_next (F1 F.slot_tuple_iterator_next ti.typeIs F.entry_tuple_iterator_next ?_ (F.args_tuple_iterator_next_1 _)));show wpAny _ _ (field (.ref it) 0 >>= fun _=>_) _ _ s;refine D6 (wpAny_field hr rd (x:=.ref a) rfl ?_);show wpAny _ _ (if(Value.ref a==Value.none)=true then _ else _) _ _ s;rw[Dz (by exact Dy)];show wpAny _ _ (field (.ref it) 1 >>= fun _=>_) _ _ s;refine D6 (wpAny_field hr rd (x:=.int i 0) rfl ?_);show wpAny _ _ (seqItems? (.ref a) >>= fun _=>_) _ _ s;refine D6 (wpAny_seqItems hq qd ?_);simp only[Fm,hv];refine D6 (wpAny_setField hr rd (by simp) (ES ⟨v,rfl,ES (k _ ?_ (Heap.SameBut.update ..))⟩));exact⟨_,Heap.get?_update_self _ hr (Obj.isFreed_of_fields (Obj.data_mapFields rd _)),(Obj.cls_mapFields ..).trans rc,by rw[Obj.data_mapFields rd];simp[rawInt]⟩
theorem oE{it a:Addr}{i:Nat}{its:Array Value}{Q:Value->Shared->Prop}(hd:A.handled=none)(ti:s.heap.IsTupleIter it a i)(ta:s.heap.IsTuple a its)(hv:its[i]? =none)
  (k:∀h' e,Heap.ExtBut it s.heap h' ->(∃o,h'.get? e=some o/\o.cls=.type "StopIteration")->E (.ref e) {s with heap:=h'}):wpAny (model P w) A (Builtin.SmallTypes.nextOf (.ref it)) Q E s:=by
 obtain⟨r,hr,rc,rd⟩:=id ti;obtain⟨q,hq,_,nq,qd⟩:=ta;unfold Builtin.SmallTypes.nextOf;refine D6 (wpAny_callSpecial?_slot (name:=Str.ofString "__next__") ti.typeIs F.slot_tuple_iterator_next (F1 F.slot_tuple_iterator_next ti.typeIs F.entry_tuple_iterator_next ?_ (F.args_tuple_iterator_next_1 _)));show wpAny _ _ (field (.ref it) 0 >>= fun _=>_) _ _ s;refine D6 (wpAny_field hr rd (x:=.ref a) rfl ?_);show wpAny _ _ (if(Value.ref a==Value.none)=true then _ else _) _ _ s;rw[Dz (by exact Dy)];show wpAny _ _ (field (.ref it) 1 >>= fun _=>_) _ _ s;refine D6 (wpAny_field hr rd (x:=.int i 0) rfl ?_);show wpAny _ _ (seqItems? (.ref a) >>= fun _=>_) _ _ s;refine D6 (wpAny_seqItems hq qd ?_);simp only[Fm,hv];refine D6 (wpAny_rule (D6 (wpAny_setField hr rd (by simp) ?_)));show wpAny _ _ (newExc (.type "StopIteration") [] >>= fun _=>_) _ _ _;refine D6 ?_;simp only[newExc,newTuple];refine D6 (wpAny_newObj_type ?_ (by size_fits));refine D6 (m:=firstArgMember _ _) (wpAny_of_eq (a:=Value.none) (by first|(simp only[firstArgMember];rfl)|rfl) ?_);refine wpAny_newObj_type ?_ (by size_fits);simp only[raiseNew];refine D6 (wpAny_handled ?_)
 first|rw[hd]|rw[show A.in1.handled=none by exact hd]
 refine D6 (ES (wpAny_throw ?_));exact k _ _ (((Heap.SameBut.update ..).extBut.push _).push _) ⟨_,EB _ rfl,rfl⟩
end
theorem rC{P:Program}{w:World}{A:Around}(hd:A.handled=none)(it a:Addr)(ne:a≠it)(its:Array Value) :
  Draws P w A it [it,a] its.size (fun i v=>its[i]? =some v) (fun i h=>h.IsTupleIter it a i/\h.IsTuple a its) where
 live:=fun _ _ st=>by obtain⟨⟨r,hr,_⟩,_⟩:=st;exact⟨r,hr⟩
 frame:=fun _ _ _ st k=>⟨st.1.at fun o e=>k it (by simp) o e,st.2.at fun o e=>k a (by simp) o e⟩
 item:=fun i s Q E hi st q=>by
  refine AL st.1 st.2 (v:=its[i]) (by simp[hi]) fun h' t' sb=>q _ h' s.toks (by simp[hi]) ⟨t',st.2.extBut sb.extBut ne⟩ sb
 done:=fun s Q E st q=>oE hd st.1 st.2 (by simp) q
open AutoSeq1 (wpAny_loadPart')
theorem mO(a:Addr)(its:Array Value)(n:Nat)(dd:Option Addr)(sl:Array (Option Value)) :
  Meets (Builtin.«enumerate.__new__» ⟨[.type "enumerate",.ref a],[]⟩) (fun _ R s=>s.heap.get? a=some {cls:=.type "tuple",dict:=dd,data:=.seq its n,slots:=sl} /\
   R (.ok (.ret (.ref (s.heap.push {cls:=.type "tuple_iterator",data:=.fields #[.ref a,.int 0 0]}).objs.size)))
    {s with heap:=(s.heap.push {cls:=.type "tuple_iterator",data:=.fields #[.ref a,.int 0 0]}).push {cls:=.type "enumerate",data:=.fields #[.none,.bool false,.ref s.heap.objs.size,rawInt 0,.none,.none]}}) :=
 .of_wp fun prog w A R s h=>by
  obtain⟨hp,g,d,tk,os⟩:=s;obtain⟨ha,h⟩:=h;have hsub:=sub_enumerate;have hT:Heap.IsTuple (Shared.heap ⟨hp,g,d,tk,os⟩) a its:=⟨_,ha,rfl,n,rfl⟩
  wp_walk using Ev ha
  refine wpAny_stack_any fun _=>ES ?_
  split
  ·rename_i c _ _ _ _ _
   cases(c==Value.type "enumerate")
   ·wp_walk using Ev ha,GA hT
    exact⟨_,rfl,h⟩
   ·wp_walk using Ev ha,GA hT
    exact⟨_,rfl,h⟩
  ·wp_walk using Ev ha,GA hT
   exact⟨_,rfl,h⟩
theorem oa{P:Program}{w:World}{A:Around}{E:Value->Shared->Prop}{s:Shared}{a:Addr}{its:Array Value}{Q:Value->Shared->Prop}(hT:s.heap.IsTuple a its)
  (k:∀h',IsEnum h' (s.heap.objs.size+1) s.heap.objs.size 0 .none->h'.IsTupleIter s.heap.objs.size a 0->(∀b o,s.heap.get? b=some o->h'.get? b=some o)->Q (.ref (s.heap.objs.size+1)) {s with heap:=h'}) :
  wpAny (model P w) A (call (.type "enumerate") [.ref a]) Q E s:=by
 obtain⟨⟨c,dd,dt,sl⟩,ha,hc,n,hd⟩:=hT;simp only at hc hd;subst hc hd;refine callType_new F.called_enumerate (by decide) (F.typeCall_enumerate_1 _) (F.newCall_enumerate_1 _) (fun ob=>F.args_object_init_2 ob _) F.entry_enumerate_new (mO a its n dd sl) ⟨ha,?_⟩;have hz:(s.heap.push {cls:=.type "tuple_iterator",data:=.fields #[.ref a,.int 0 0]}).objs.size=s.heap.objs.size+1:=Heap.size_push ..;show _/\_;rw[hz];have he:IsEnum ((s.heap.push {cls:=.type "tuple_iterator",data:=.fields #[.ref a,.int 0 0]}).push {cls:=.type "enumerate",data:=.fields #[.none,.bool false,.ref s.heap.objs.size,rawInt 0,.none,.none]}) (s.heap.objs.size+1) s.heap.objs.size 0 .none:=by
  have q:=EB (s.heap.push {cls:=.type "tuple_iterator",data:=.fields #[.ref a,.int 0 0]}) (o:={cls:=.type "enumerate",data:=.fields #[.none,.bool false,.ref s.heap.objs.size,rawInt 0,.none,.none]}) rfl;rw[hz]at q;exact q
 exact⟨⟨_,he,rfl⟩,k _ he ⟨_,Dr _ (EB _ rfl),rfl,rfl⟩ fun b o y=>Dr _ (Dr _ y)⟩
noncomputable def Bj(src:Hp->List V->Prop):It :=
 ⟨fun i H=>∃xs x,src H xs/\xs[i]? =some x,fun i H v H' =>∃p,H p=none/\v=.ref p/\∀xs x,src H xs->xs[i]? =some x->H' =upd H p (.tup [.int (i:Nat),x]),fun i H=>∃xs,src H xs/\xs.length=i⟩
structure qB(P:Program)(w:World)(K:W.Frag)(src:Hp->List V->Prop)(e it:Addr)(tn:Nat->Heap->Prop):Prop where
 ne:e≠it
 obj:∀i h,tn i h->∃o,h.get? it=some o/\∀v,o.data≠.cell v
 keep:∀i h h',tn i h->(∀o,h.get? it=some o->h'.get? it=some o)->tn i h'
 inj:∀(X:Cx) pins s σ H xs ys,X.K=K->Inv X pins σ H s->src H xs->src H ys->xs=ys
 draws:∀(X:Cx) pins s σ H xs (i:Nat),X.prog=P->X.w=w->X.K=K->X.calm=true->Inv X pins σ H s->src H xs->tn i s.heap->∃(fp:List Addr)(Pw:Nat->Value->Prop)(St:Nat->Heap->Prop),
  Draws P w X.A.in1 it fp xs.length Pw St/\e∉fp/\St i s.heap/\(∀j v x,Pw j v->xs[j]? =some x->RelV x v)/\∀j h,St j h->tn j h
theorem fe{P:Program}{w:World}{K:W.Frag}{es:List Expr}{kt:Nat}{tpos:Pos}{src:Hp->List V->Prop}{e it:Addr}{tn:Nat->Heap->Prop}(S:qB P w K src e it tn) :
  oq P w K (.Tuple es kt tpos) (Bj src) [e,it] e (fun i h=>(∃old,IsEnum h e it (i:Nat) old)/\tn i h) where
 mem:=by simp
 obj:=fun i h st c hc=>by
  obtain⟨⟨old,he⟩,ht⟩:=st;simp only[D8,FE,or_false]at hc
  rcases hc with rfl|rfl
  ·exact⟨_,he,fun v z=>by cases z⟩
  ·exact S.obj i h ht
 keep:=fun i h h' st k=>by
  obtain⟨⟨old,he⟩,ht⟩:=st;exact⟨⟨old,k e (by simp) _ he⟩,S.keep i h h' ht fun o q=>k it (by simp) o q⟩
 item:=by
  intro X hP hw hK hc i pins s σ H E I hf st hg;obtain⟨⟨old,he⟩,ht⟩:=st;obtain⟨xs,x,hs,hx⟩:=hg;obtain⟨fp,Pw,St,D,hef,hst,hrel,hback⟩:=S.draws X pins s σ H xs i hP hw hK hc I hs ht;subst hP hw hK;have hlt:i<xs.length:=(D1.mp hx).1;have elt:e<s.heap.objs.size:=EA he;have ilt:it<s.heap.objs.size:=by obtain⟨o,ho,_⟩:=S.obj i _ ht;exact EA ho
  refine wpAny_pyNext_enum_itemD D he hst hlt S.ne hef fun u h' tk hu ho hst' hT hsz hk=> ?_;refine⟨_,rfl,wpAny_letOwnedTupleGo_enum ho fun h'' he' hs' => ?_⟩;have kk:∀c o,c∉[e,it]->s.heap.get? c=some o->h''.get? c=some o:=fun c o hc' y=>by
   simp only[D8,FE,or_false,not_or]at hc';exact(hs'.2 c hc'.1).trans (hk c o hc'.1 hc'.2 y)
  have new:h''.get? s.heap.objs.size=some {cls:=.type "tuple",data:=.seq #[.int i tk,u]}:=(hs'.2 _ (Fi elt)).trans hT
  have I1:Inv X pins σ (upd H s.heap.objs.size (.tup [.int (i:Nat),x])) {s with heap:=h'',toks:=tk+1} :=
   I.drew (t' :=tk+1) hf kk (Dx _) ⟨by show 2<=sizeLine;decide,[.int i tk,u],.cons ⟨tk,rfl⟩ (.cons (hrel i u x hu hx) .nil),⟨_,new,rfl,_,rfl,rfl⟩⟩
  refine⟨.ref s.heap.objs.size,_,I1,rfl,⟨s.heap.objs.size,I.hok.fresh (Dx _),rfl,fun xs' x' hs2 hx2=> ?_⟩,⟨⟨u,by simpa using he'⟩,S.keep _ _ _ (hback _ _ hst') fun o y=>(hs'.2 it S.ne.symm).trans y⟩,fun c hc' => ?_⟩
  ·have q:=S.inj X pins s σ H _ _ rfl I hs hs2
   subst q;rw[hx]at hx2;cases hx2;rfl
  ·rw[aB ?_]
   ·exact(hf c hc').1
   ·simp only[D8,FE,or_false]at hc'
    rcases hc' with rfl|rfl
    ·exact EI elt
    ·exact EI ilt
 done:=by
  intro X hP hw hK hc i pins s σ H E I hf st hg;obtain⟨⟨old,he⟩,ht⟩:=st;obtain⟨xs,hs,hx⟩:=hg;obtain⟨fp,Pw,St,D,hef,hst,hrel,hback⟩:=S.draws X pins s σ H xs i hP hw hK hc I hs ht;subst hP hw hK;subst hx;exact wpAny_pyNext_enum_endD D he hst fun h' hk=>⟨rfl,I.drew0 (t' :=s.toks) hf fun c o hc' y=>hk c o (by simp only[D8,FE,or_false,not_or]at hc';exact hc'.2) y⟩
 self:=fun _ _ _ _ _ st h=>by
  obtain⟨⟨old,he⟩,_⟩:=st;exact GC he h
theorem rA{P:Program}{w:World}{K:W.Frag}{a e it:Addr}(h1:e≠it)(h2:a≠it)(h3:a≠e):qB P w K (fun H xs=>cJ K H a xs) e it (fun i h=>h.IsTupleIter it a i) where
 ne:=h1
 obj:=fun i h st=>by
  obtain⟨o,ho,_,d⟩:=st;exact⟨o,ho,fun v z=>by rw[d]at z;cases z⟩
 keep:=fun i h h' st k=>st.at k
 inj:=fun X pins s σ H xs ys hK I h1 h2=>by
  subst hK;exact I.tuple_inj h1 h2
 draws:=fun X pins s σ H xs i hP hw hK hc I hs ht=>by
  subst hP hw hK;obtain⟨its,r,p,_⟩:=I.tuple hs;have l:=r.length;have D:=rC (P:=X.prog) (w:=X.w) (A:=X.A.in1) (I.ok.hd hc) it a h2 its.toArray;rw[D9,<-l]at D;refine⟨_,_,_,D,by simp[h1,h3.symm],⟨ht,p⟩,fun j v x hv hx=> ?_,fun j h st=>st.1⟩;obtain⟨u,hu,ru⟩:=r.get hx;have e:its[j]? =some v:=by simpa using hv
  rw[hu]at e;cases e;exact ru
theorem rB{P:Program}{w:World}{K:W.Frag}{z:Str}{t:Tok}{e it:Addr}(h1:e≠it):qB P w K (fun _ xs=>xs=bm z) e it (fun i h=>h.IsStrIter it (strIterType z) z t i) where
 ne:=h1
 obj:=fun i h st=>by
  obtain⟨o,ho,_,d⟩:=st;exact⟨o,ho,fun v z=>by rw[d]at z;cases z⟩
 keep:=fun i h h' st k=>by
  obtain⟨o,ho,r⟩:=st;exact⟨o,k o ho,r⟩
 inj:=fun X pins s σ H xs ys hK I h1 h2=>by rw[h1,h2]
 draws:=fun X pins s σ H xs i hP hw hK hc I hs ht=>by
  subst hP hw hK hs;have l:(bm z).length=z.cps.size:=by rw[g0];rfl
  have rel:∀(j:Nat)(v:Value)(x:V),(∃c u,z.cps[j]? =some c/\v=.str ⟨#[c]⟩ u)->(bm z)[j]? =some x->RelV x v:=fun j v x hv hx=>by
   obtain⟨c,u,hc',rfl⟩:=hv;unfold bm at hx;rw[D7,Fp,hc']at hx;cases hx;exact⟨u,rfl⟩
  rw[l];cases ha:z.cps.all (·<128)with
  | true =>
   have e:strIterType z="str_ascii_iterator":=by unfold strIterType;rw[D3 ha]
   rw[e]at ht ⊢;exact⟨_,_,_,Draws.strAscii (prog:=X.prog) (w:=X.w) (A:=X.A.in1) (I.ok.hd hc) it z t,by simp[h1],ht,rel,fun j h st=>st⟩
  | false =>
   have e:strIterType z="str_iterator":=by unfold strIterType;rw[Dz (by rw[ha];exact Dy)]
   rw[e]at ht ⊢;exact⟨_,_,_,Draws.strWide (prog:=X.prog) (w:=X.w) (A:=X.A.in1) (I.ok.hd hc) it z t,by simp[h1],ht,rel,fun j h st=>st⟩
section
variable{X:Cx}
noncomputable def Aq(K:W.Frag)(ta:TA):TI:=fun σ H R=>ta σ H fun vs H1=>∃a xs,vs=[.ref a]/\cJ K H1 a xs/\R (Bj fun H xs=>cJ K H a xs) H1
noncomputable def Ar(ta:TA):TI:=fun σ H R=>ta σ H fun vs H1=>∃z,vs=[.str z]/\R (Bj fun _ xs=>xs=bm z) H1
theorem tW{es:List Expr}{kt:Nat}{tpos:Pos}{a:Expr}{ta:TA}{p pos:Pos}(hg:Gl X "enumerate")(hm:X.mg "enumerate"=none)(ha:PA X [a] ta)(hs:starEach [a] X.env=[(false,eval a X.env)]:=by rfl) :
  PI X (.Tuple es kt tpos) (.Call (.Name "enumerate" p) [a] [] pos) (Aq X.K ta):=by
 intro pins s σ H R I h;refine Call_ (dZ I hg hm boot_enumerate (El (aj (ha pos pins s σ H _ I h) fun us s1 ⟨vs,H1,I1,r1,q1⟩=> ?_) hs rfl));obtain⟨l,xs,e,sa,q⟩:=q1;subst e;obtain⟨u,rfl,ru⟩:=vals1 r1;cases ru;obtain⟨its,r,pt,_⟩:=I1.tuple sa;have lt:l<s1.heap.objs.size:=by obtain⟨o,e,_⟩:=id pt;exact EA e
 refine oa pt fun h' he iz hk=> ?_;refine GC he ?_;have I2:Inv X pins σ H1 {s1 with heap:=h'}:=I1.kept (t' :=s1.toks) hk;refine⟨s1.heap.objs.size+1,[s1.heap.objs.size+1,s1.heap.objs.size],_,_,H1,rfl,I2,fe (rA (Nat.succ_ne_self _) (EI lt) (EI (Ew lt))),⟨⟨_,he⟩,iz⟩,fun c hc=> ?_,q⟩;have le:s1.heap.objs.size<=c:=by
  simp only[D8,FE,or_false]at hc
  rcases hc with rfl|rfl<;>omega
 exact I1.fpOk le (I1.hok.fresh le)
theorem tX{es:List Expr}{kt:Nat}{tpos:Pos}{a:Expr}{ta:TA}{p pos:Pos}(hg:Gl X "enumerate")(hm:X.mg "enumerate"=none)(ha:PA X [a] ta)(hs:starEach [a] X.env=[(false,eval a X.env)]:=by rfl) :
  PI X (.Tuple es kt tpos) (.Call (.Name "enumerate" p) [a] [] pos) (Ar ta):=by
 intro pins s σ H R I h;refine Call_ (dZ I hg hm boot_enumerate (El (aj (ha pos pins s σ H _ I h) fun us s1 ⟨vs,H1,I1,r1,q1⟩=> ?_) hs rfl));obtain⟨z,e,q⟩:=q1;subst e;obtain⟨u,rfl,t,rfl⟩:=vals1 r1;refine call_enumerate_str fun h' he iz _ hk=> ?_;refine GC he ?_;have I2:Inv X pins σ H1 {s1 with heap:=h'}:=I1.kept (t' :=s1.toks) hk;refine⟨s1.heap.objs.size+1,[s1.heap.objs.size+1,s1.heap.objs.size],_,_,H1,rfl,I2,fe (rB (Nat.succ_ne_self _)),⟨⟨_,he⟩,iz⟩,fun c hc=> ?_,q⟩;have le:s1.heap.objs.size<=c:=by
  simp only[D8,FE,or_false]at hc
  rcases hc with rfl|rfl<;>omega
 exact I1.fpOk le (I1.hok.fresh le)
theorem ui{src:Hp->List V->Prop}{xs:List V}{g:TG}{tb:TS}{D:dJ}{σ:St}{H:Hp}(Pv:Nat->St->Hp->Prop)(h0:Pv 0 σ H)(ha:∀i σ H,i<=xs.length->Pv i σ H->src H xs)
  (hs:∀i x p σ H,xs[i]? =some x->H p=none->Pv i σ H->g (.ref p) σ (upd H p (.tup [.int (i:Nat),x])) fun σ2 H2=>tb {D with nx:=Pv (i+1),ct:=Pv (i+1),bk:=D.nx} σ2 H2) (hd:∀σ H,Pv xs.length σ H->D.nx σ H) :
  ∃W:Nat->Nat->St->Hp->Prop,(∃m,W 0 m σ H)/\∀i m σ H,W i m σ H ->
   ((Bj src).stop i H/\D.nx σ H)\/((Bj src).go i H/\∃N:St->Hp->Prop,(∀σ' H',N σ' H' ->∃m',m' <m/\W (i+1) m' σ' H')/\∀x H',(Bj src).yld i H x H' ->g x σ H' fun σ2 H2=>tb {D with nx:=N,ct:=N,bk:=D.nx} σ2 H2):=by
 refine⟨fun i m σ H=>m=xs.length-i/\i<=xs.length/\Pv i σ H,⟨xs.length,by simp,EY _,h0⟩,?_⟩;rintro i m σ H ⟨rfl,hi,p⟩;have qa:=ha i σ H hi p
 by_cases hlt:i<xs.length
 ·have ex:xs[i]? =some xs[i]:=by simp[hlt]
  refine .inr ⟨⟨xs,_,qa,ex⟩,Pv (i+1),fun σ' H' p' =>⟨xs.length-(i+1),by omega,rfl,hlt,p'⟩,fun x H' y=> ?_⟩;obtain⟨pp,hn,rfl,y⟩:=y;have e:=y xs _ qa ex;subst e;exact hs i _ pp σ H ex hn p
 ·have e:i=xs.length:=by omega
  subst e;exact .inl ⟨⟨xs,qa,rfl⟩,hd σ H p⟩
theorem lX{ns:List Int}{us:List Value}{i:Nat}{v:Value}(r:aQ (ns.map V.int) us)(h:us[i]? =some v):∃t,v=.int (ns.getD i 0) t:=by
 have hl:=r.length;rw[Dp]at hl;have hi:i<us.length:=(D1.mp h).1;obtain⟨u,hu,ru⟩:=r.get (i:=i) (x:=.int (ns[i]'(by omega))) (by simp[show i<ns.length by omega]);rw[hu]at h;cases h;obtain⟨t,e⟩:=ru;refine⟨t,?_⟩;rw[e];simp[List.getD,show i<ns.length by omega]
theorem dW(ns:List Int):∀k,k<=ns.length->preSum (fun i=>ns.getD i 0) k=(ns.take k).sum
 | 0,_=>by simp[preSum]
 | k+1,h=>by
  have e:ns.take (k+1)=ns.take k++[ns[k]'(by omega)]:=by rw[FJ];simp[show k<ns.length by omega]
  rw[preSum,dW ns k (by omega),e,List.sum_append];simp[List.getD,show k<ns.length by omega]
theorem jH(hc:X.calm=true):bI X (.builtin "sum") (fun xs H Q=>∃(p:Addr)(ns:List Int),xs=[.ref p]/\bJ X.K H p (ns.map V.int)/\Q (.int ns.sum) H):=by
 intro pins s σ H xs us Q I r h;obtain⟨p,ns,rfl,hq,q⟩:=h;obtain⟨u,rfl,rx⟩:=vals1 r;cases rx;obtain⟨its,r',pl,hz⟩:=I.list hq;have hlen:=r'.length;rw[Dp]at hlen;have hp:p<s.heap.objs.size:=by
  obtain⟨o,e,_⟩:=pl.isList;exact EA e
 refine call_sum_walkAnyS (wpAny_pyIter_list pl.isList ?_);refine⟨s.heap.objs.size,_,_,_,its.toArray.size,_,_,(fun i=>ns.getD i 0),rfl,(Walks.list (A:=X.A.in1) (I.ok.hd hc) s.heap.objs.size p (EI hp) its.toArray).toS,⟨⟨_,EB _ rfl,rfl,rfl⟩,pl.isList.push _⟩,?_,?_,?_⟩
 ·intro b hb
  simp at hb
  rcases hb with rfl|rfl
  ·rw[size_push'];exact Nat.lt_succ_self _
  ·rw[size_push'];exact Ew hp
 ·intro i v hv
  exact lX r' (by simpa using hv)
 ·intro s' t' hm
  obtain⟨m1,m2,m3,m4,m5⟩:=hm;have e:s' ={s with heap:=s'.heap,toks:=s'.toks}:=by
   cases s';simp only at m2 m3 m4;subst m2 m3 m4;rfl
  rw[e];refine⟨.int ns.sum,H,I.kept (t' :=s'.toks) (fun b o z=>m1 b o (by simpa using EI (EA z)) (Dr _ z)),⟨t',?_⟩,q⟩;rw[D9,<-hlen,dW ns _ (Dx _),Es]
theorem eW:∀{us:List Value}{ns:List Int},IntsAre us ns->aQ (ns.map V.int) us
 | _,_,.nil=>.nil
 | _,_,.cons n t r=>.cons ⟨t,rfl⟩ (eW r)
noncomputable def sortI(ns:List Int):List Int:=ns.mergeSort (fun a b=>decide (a<=b))
theorem sortI_perm(ns:List Int):(sortI ns).Perm ns:=List.mergeSort_perm _ _
theorem sm(ns:List Int):(sortI ns).Pairwise (·<=·):=by
 have:=List.pairwise_mergeSort (le:=fun a b:Int=>decide (a<=b)) (fun a b c h1 h2=>by simp at *;omega) (fun a b=>by simp;omega) ns;exact this.imp fun h=>by simpa using h
theorem kG{ns ms:List Int}(h:ms.Perm ns)(s:ms.Pairwise (·<=·)):ms=sortI ns :=
 List.Perm.eq_of_pairwise (le:=(·<=·)) (fun a b _ _ h1 h2=>Int.le_antisymm h1 h2) s (sm ns) (h.trans (sortI_perm ns).symm)
theorem gA:bI X (.builtin "sorted") (fun xs H Q=>∃(p:Addr)(ns:List Int),xs=[.ref p]/\bJ X.K H p (ns.map V.int)/\ns.length<64/\∀a,H a=none->Q (.ref a) (upd H a (.lst ((sortI ns).map V.int)))):=by
 intro pins s σ H xs us Q I r h;obtain⟨p,ns,rfl,hq,h64,q⟩:=h;obtain⟨u,rfl,rx⟩:=vals1 r;cases rx;obtain⟨its,r',pl,hz⟩:=I.list hq;have hlen:=r'.length;rw[Dp]at hlen;refine sorted_ints pl.isList (intsAre_of r') (by omega) fun out ns' a1 a2 a3=> ?_;have e:=kG a2 a3;subst e;obtain⟨c,hc⟩:=sortedAll_at s.heap its out;refine⟨.ref (s.heap.objs.size+1),_,I.laid (t' :=s.toks) (o:=.lst ((sortI ns).map V.int)) (fun b o z=>sortedAll_old z) (Nat.le_succ _) ?_,rfl,q _ (I.hok.fresh (Nat.le_succ _))⟩;refine⟨?_,out.toList,c,eW a1,by simpa [seqObj]using hc⟩;rw[Dp,(sortI_perm ns).length_eq];have:=Ej;omega
theorem oQ{P:Program}{w:World}{K:W.Frag}{a e it:Addr}(h1:e≠it)(h2:a≠it)(h3:a≠e):qB P w K (fun H xs=>bJ K H a xs) e it (fun i h=>h.IsListIter it a i) where
 ne:=h1
 obj:=fun i h st=>by
  obtain⟨o,ho,_,d⟩:=st;exact⟨o,ho,fun v z=>by rw[d]at z;cases z⟩
 keep:=fun i h h' st k=>st.at k
 inj:=fun X pins s σ H xs ys hK I h1 h2=>by
  subst hK;exact I.list_inj h1 h2
 draws:=fun X pins s σ H xs i hP hw hK hc I hs ht=>by
  subst hP hw hK;obtain⟨its,r,p,_⟩:=I.list hs;have l:=r.length;have D:=Draws.list (prog:=X.prog) (w:=X.w) (A:=X.A.in1) (I.ok.hd hc) it a h2 its.toArray;rw[D9,<-l]at D;refine⟨_,_,_,D,by simp[h1,h3.symm],⟨ht,p.isList⟩,fun j v x hv hx=> ?_,fun j h st=>st.1⟩;obtain⟨u,hu,ru⟩:=r.get hx;have e:its[j]? =some v:=by simpa using hv
  rw[hu]at e;cases e;exact ru
noncomputable def As(K:W.Frag)(ta:TA):TI:=fun σ H R=>ta σ H fun vs H1=>∃a xs,vs=[.ref a]/\bJ K H1 a xs/\R (Bj fun H xs=>bJ K H a xs) H1
theorem mE{es:List Expr}{kt:Nat}{tpos:Pos}{a:Expr}{ta:TA}{p pos:Pos}(hg:Gl X "enumerate")(hm:X.mg "enumerate"=none)(ha:PA X [a] ta)(hs:starEach [a] X.env=[(false,eval a X.env)]:=by rfl) :
  PI X (.Tuple es kt tpos) (.Call (.Name "enumerate" p) [a] [] pos) (As X.K ta):=by
 intro pins s σ H R I h;refine Call_ (dZ I hg hm boot_enumerate (El (aj (ha pos pins s σ H _ I h) fun us s1 ⟨vs,H1,I1,r1,q1⟩=> ?_) hs rfl));obtain⟨l,xs,e,sa,q⟩:=q1;subst e;obtain⟨u,rfl,ru⟩:=vals1 r1;cases ru;obtain⟨its,r,pt,_⟩:=I1.list sa;have lt:l<s1.heap.objs.size:=by obtain⟨o,e,_⟩:=pt.isList;exact EA e
 refine call_enumerate_list pt.isList fun h' he iz hl hk=> ?_;refine GC he ?_;have I2:Inv X pins σ H1 {s1 with heap:=h'}:=I1.kept (t' :=s1.toks) hk;refine⟨s1.heap.objs.size+1,[s1.heap.objs.size+1,s1.heap.objs.size],_,_,H1,rfl,I2,fe (oQ (Nat.succ_ne_self _) (EI lt) (EI (Ew lt))),⟨⟨_,he⟩,iz⟩,fun c hc=> ?_,q⟩;have le:s1.heap.objs.size<=c:=by
  simp only[D8,FE,or_false]at hc
  rcases hc with rfl|rfl<;>omega
 exact I1.fpOk le (I1.hok.fresh le)
noncomputable def vV(i j:Int):Prop:=i.natAbs<2^2000/\j.natAbs<2^2000
theorem intBits_le{k:Int}(h:k.natAbs<2^2000):Builtin.Int.intBits k<=2000:=by
 unfold Builtin.Int.intBits
 split
 ·exact EY _
 ·have:k.natAbs.log2<2000:=by
   rcases Nat.eq_zero_or_pos k.natAbs with h0|hp
   ·rw[h0];decide
   ·exact(Nat.log2_lt (Fi hp)).mpr h
  omega
theorem vV.ok{i j:Int}(h:vV i j):IntMulOk i j:=by
 unfold IntMulOk;have h1:=intBits_le h.1;have h2:=intBits_le h.2;have h3:Builtin.Int.intTooBig (Builtin.Int.intBits i+Builtin.Int.intBits j)=false:=by
  unfold Builtin.Int.intTooBig;have:((4000:Nat):Int)<=(bitsLine:Nat):=by decide
  exact EV (by omega)
 rw[h3];simp
theorem wq:dw X (binaryOp .Mult) (rI vV fun i j=>.int (i*j)):=Cu fun _ _ _ _ _ _ _ hc q=>mul_int q hc.ok
theorem oZ:bI X (.builtin "len") (fun xs H Q=>∃a kvs,xs=[V.ref a]/\Rd H a (.dK kvs)/\Q (.int kvs.length) H):=by
 intro pins s σ H xs us Q I r h;obtain⟨a,kvs,rfl,ha,q⟩:=h;obtain⟨u,rfl,ru⟩:=vals1 r;cases ru;exact DD I ha fun t s' I' =>⟨.int kvs.length,H,I',⟨t,rfl⟩,q⟩
theorem nC:bI X (.type "dict") (fun xs H Q=>∃a kvs,xs=[V.ref a]/\Rd H a (.dK kvs)/\∀p,H p=none->Q (.ref p) (upd H p (.dK kvs))):=by
 intro pins s σ H xs us Q I r h;obtain⟨a,kvs,rfl,ha,q⟩:=h;obtain⟨u,rfl,ru⟩:=vals1 r;cases ru;exact uw I ha fun p s' hp I' =>⟨.ref p,_,I',rfl,q p hp⟩
noncomputable def iu(v d:Addr):HO:=.ext fun h=>h.IsValuesView v d
theorem jZ:MtR X "dict.values" (fun x vs H Q=>∃a kvs,x=.ref a/\vs=[]/\H a=some (.dK kvs)/\∀p,H p=none->Q (.ref p) (upd H p (iu p a))):=by
 intro pins s σ H x xs v us Q I rx rs h;obtain⟨a,kvs,rfl,rfl,ha,q⟩:=h;cases rx;cases rs;obtain⟨z,hd,vs,rel,dd⟩:=jk I.hok ha;refine call_meetsIn F8 dd.typeIs PySem.F.entry_dict_values (PySem.F.args_dict_values_1 _) (meets_dict_values (aU X.prog X.w) a hd) ⟨⟨vs,dd⟩,?_⟩;refine⟨.ref s.heap.objs.size,_,I.laid (a:=s.heap.objs.size) (o:=iu s.heap.objs.size a) (t' :=s.toks) (fun b u e=>Dr _ e) (Dx _) ?_,rfl,q _ (I.hok.fresh (Dx _))⟩;refine⟨⟨_,EB _ rfl,rfl,rfl⟩,⟨_,EB _ rfl⟩,fun h1 h2 p k=> ?_⟩;obtain⟨o,e,r⟩:=p;exact⟨o,k o e,r⟩
theorem mQ{kvs:List (ac×V)}{vs:List (ac×Value)}{ns:List Int}(r:KV kvs vs)(e:kvs.map (·.2)=ns.map V.int){i:Nat}{k:ac}{v:Value}(h:vs[i]? =some (k,v)):∃t,v=.int (ns.getD i 0) t:=by
 have hl:kvs.length=vs.length:=r.length;have hi:i<vs.length:=(D1.mp h).1;have hn:ns.length=kvs.length:=by have:=Ek List.length e;simpa using this.symm
 have key:∀{kvs:List (ac×V)}{vs:List (ac×Value)}{i:Nat}{q:ac×Value},KV kvs vs->vs[i]? =some q->∃p,kvs[i]? =some p/\RelV p.2 q.2:=by
  intro kvs vs i q r
  induction r generalizing i with
  | nil=>intro e;simp at e
  | cons a t ih =>
   intro e;cases i with
   | zero=>simp at e;subst e;exact⟨_,by simp,a.2⟩
   | succ i=>simpa using ih (by simpa using e)
 obtain⟨p,hp,rp⟩:=key r h;have e2:(kvs.map (·.2))[i]? =(ns.map V.int)[i]? :=by rw[e]
 rw[D7,D7,hp,Dw (by omega)]at e2;have e3:p.2=V.int (ns[i]'(by omega)):=by simpa using e2
 rw[e3]at rp;obtain⟨t,e4⟩:=rp;refine⟨t,?_⟩;have e5:v=.int (ns[i]'(by omega)) t:=e4;rw[e5];simp[List.getD,show i<ns.length by omega]
theorem jG(hc:X.calm=true):bI X (.builtin "sum") (fun xs H Q=>∃(p a:Addr)(kvs:List (ac×V))(ns:List Int),xs=[.ref p]/\H p=some (iu p a)/\H a=some (.dK kvs)/\kvs.map (·.2)=ns.map V.int/\Q (.int ns.sum) H):=by
 intro pins s σ H xs us Q I r h;obtain⟨p,a,kvs,ns,rfl,hp,ha,en,q⟩:=h;obtain⟨u,rfl,rx⟩:=vals1 r;cases rx;obtain⟨z,hd,vs,rel,dd⟩:=jk I.hok ha;obtain⟨ep,da⟩:=dd.dictAt;obtain⟨hv,_⟩:=(show ar X.prog X.w H s.heap p (iu p a)from I.hok p _ hp);have hl:kvs.length=vs.length:=rel.length;have hn:ns.length=kvs.length:=by have:=Ek List.length en;simpa using this.symm
 have lt:a<s.heap.objs.size:=da.lt_size;refine call_sum_walkAnyS (wpAny_pyIter_values hv da ?_);refine⟨s.heap.objs.size,_,_,_,vs.length,_,_,(fun i=>ns.getD i 0),rfl,(Walks.dictValues (A:=X.A.in1) (knd:=aU X.prog X.w) (I.ok.hd hc) s.heap.objs.size a (EI lt) vs ep).toS,⟨⟨_,EB _ rfl,rfl,rfl⟩,da.push _⟩,?_,?_,?_⟩
 ·intro b hb
  simp at hb
  rcases hb with rfl|rfl
  ·rw[size_push'];exact Nat.lt_succ_self _
  ·rw[size_push'];exact Ew lt
 ·rintro i v ⟨k,hv⟩
  exact mQ rel en hv
 ·intro s' t' hm
  obtain⟨m1,m2,m3,m4,m5⟩:=hm;have e:s' ={s with heap:=s'.heap,toks:=s'.toks}:=by
   cases s';simp only at m2 m3 m4;subst m2 m3 m4;rfl
  rw[e];refine⟨.int ns.sum,H,I.kept (t' :=s'.toks) (fun b o z=>m1 b o (by simpa using EI (EA z)) (Dr _ z)),⟨t',?_⟩,q⟩;rw[<- hl,<-hn,dW ns _ (Dx _),Es]
theorem Inv.known{pins:List (Addr×Obj)}{σ:St}{H:Hp}{s:Shared}{a:Addr}{kvs:List (ac×V)}{o:Obj}(I:Inv X pins σ H s)(ha:H a=some (.dK kvs))(ho:s.heap.get? a=some o):Inv X pins σ (upd H a (.frz o (.dK kvs))) s:=by
 have nt:∀b xs,H b=some (.tup xs)->upd H a (.frz o (.dK kvs)) b=some (.tup xs):=fun b xs e=>by rw[aB (fun z=>by subst z;rw[ha]at e;cases e)];exact e
 refine⟨I.ok,I.os,I.bare,⟨I.base.keep,I.base.slot,fun b ob e n hx=> ?_,I.base.there,fun b xs e=>nt b xs (I.base.tups b xs e),fun b ob u e=> ?_,fun b ps e=> ?_⟩,I.loc,I.cell,?_,fun x c e=> ?_,fun p hp=> ?_,fun b u e=> ?_,I.len⟩
 ·have:=I.base.free b ob e n hx
  rw[aB (fun z=>by subst z;rw[ha]at this;cases this)];exact this
 ·have:=I.base.frzs b ob u e
  rw[aB (fun z=>by subst z;rw[ha]at this;cases this)];exact this
 ·obtain⟨m,e⟩:=I.base.tbls b ps e
  exact⟨m,by rw[aB (fun z=>by subst z;rw[ha]at e;cases e)];exact e⟩
 ·rw[aB (fun z=>by have:=I.free;rw[z,ha]at this;cases this)]
  exact I.free
 ·have:=I.freeC x c e
  rw[aB (fun z=>by rw[z,ha]at this;cases this)];exact this
 ·obtain⟨h1,h2,h3⟩:=I.pin p hp
  exact⟨h1,by rw[aB (fun z=>by rw[z,ha]at h2;cases h2)];exact h2,h3⟩
 ·by_cases hb:b=a
  ·subst hb
   rw[aD]at e;cases e;refine⟨ho,?_⟩;exact(I.hok b _ ha).stay (fun _ _ _ q=>q) (fun c q=>by rw[aB (fun z=>by subst z;rw[ha]at q;cases q)];exact q) nt
  ·rw[aB hb]at e
   exact(I.hok b u e).stay (fun _ _ _ q=>q) (fun c q=>by rw[aB (fun z=>by subst z;rw[ha]at q;cases q)];exact q) nt
noncomputable def NF(X:Cx)(a:Addr):Prop:=∀o u,X.H₀ a≠some (.frz o u)
theorem Inv.nf{pins:List (Addr×Obj)}{σ:St}{H:Hp}{s:Shared}{a:Addr}{kvs:List (ac×V)}(I:Inv X pins σ H s)(ha:H a=some (.dK kvs)):NF X a:=fun o u e=>by
 have:=I.base.frzs a o u e;rw[ha]at this;cases this
theorem Inv.unknown{pins:List (Addr×Obj)}{σ:St}{H:Hp}{s:Shared}{a:Addr}{kvs:List (ac×V)}{o:Obj}(I:Inv X pins σ H s)(nf:NF X a)(ha:H a=some (.frz o (.dK kvs))):Inv X pins σ (upd H a (.dK kvs)) s:=by
 have nt:∀b xs,H b=some (.tup xs)->upd H a (.dK kvs) b=some (.tup xs):=fun b xs e=>by rw[aB (fun z=>by subst z;rw[ha]at e;cases e)];exact e
 refine⟨I.ok,I.os,I.bare,⟨I.base.keep,I.base.slot,fun b ob e n hx=> ?_,I.base.there,fun b xs e=>nt b xs (I.base.tups b xs e),fun b ob u e=> ?_,fun b ps e=> ?_⟩,I.loc,I.cell,?_,fun x c e=> ?_,fun p hp=> ?_,fun b u e=> ?_,I.len⟩
 ·have:=I.base.free b ob e n hx
  rw[aB (fun z=>by subst z;rw[ha]at this;cases this)];exact this
 ·have:=I.base.frzs b ob u e
  rw[aB (fun z=>by subst z;exact nf _ _ e)];exact this
 ·obtain⟨m,e⟩:=I.base.tbls b ps e
  exact⟨m,by rw[aB (fun z=>by subst z;rw[ha]at e;cases e)];exact e⟩
 ·rw[aB (fun z=>by have:=I.free;rw[z,ha]at this;cases this)]
  exact I.free
 ·have:=I.freeC x c e
  rw[aB (fun z=>by rw[z,ha]at this;cases this)];exact this
 ·obtain⟨h1,h2,h3⟩:=I.pin p hp
  exact⟨h1,by rw[aB (fun z=>by rw[z,ha]at h2;cases h2)];exact h2,h3⟩
 ·by_cases hb:b=a
  ·subst hb
   rw[aD]at e;cases e;exact(I.hok b _ ha).2.stay (fun _ _ _ q=>q) (fun c q=>by rw[aB (fun z=>by subst z;rw[ha]at q;cases q)];exact q) nt
  ·rw[aB hb]at e
   exact(I.hok b u e).stay (fun _ _ _ q=>q) (fun c q=>by rw[aB (fun z=>by subst z;rw[ha]at q;cases q)];exact q) nt
noncomputable def Dk(a:Addr)(o:Obj)(kvs:List (ac×V)):It :=
 ⟨fun i H=>H a=some (.frz o (.dK kvs))/\i<kvs.length,fun i H v H' =>∃p,H p=none/\v=.ref p/\∀k x,kvs[i]? =some (k,x)->H' =upd H p (.tup [kV k,x]),fun i H=>H a=some (.frz o (.dK kvs))/\i=kvs.length⟩
theorem Ae{k:ac}{v:Value}{P:Program}{w:World}(h:(aU P w).is k v=true):RelV (kV k) v:=by
 cases k with
 | inl i =>
  obtain⟨t,e⟩:=Value.isInt_shape h;exact⟨t,e⟩
 | inr z =>
  obtain⟨t,e⟩:=Value.isStrOf_shape h;exact⟨t,e⟩
theorem d0:entryFor table "dict_itemiterator.__iter__"=some Builtin.«dict_keyiterator.__iter__» :=
 entryFor_alias (id' :="dict_keyiterator.__iter__") (by kernel_rfl) rfl (by decide +kernel) (by kernel_rfl)
theorem nW{P:Program}{w:World}{K:W.Frag}{es:List Expr}{kt:Nat}{tpos:Pos}{a it:Addr}{o:Obj}{kvs:List (ac×V)}{vs:List (ac×Value)}{ep:Nat}{h0:Heap}(hne:a≠it)(rel:KV kvs vs)(hat:h0.DictAt (aU P w) a vs ep)(ho:h0.get? a=some o) :
  oq P w K (.Tuple es kt tpos) (Dk a o kvs) [it] it (fun i h=>∃ok ov,IsItemIter h it a i vs.length ep ok ov) where
 mem:=by simp
 obj:=fun i h st b hb=>by
  have e:b=it:=by simpa using hb
  subst e;obtain⟨ok,ov,e⟩:=st;exact⟨_,e,fun v z=>by cases z⟩
 keep:=fun i h h' st k=>by
  obtain⟨ok,ov,e⟩:=st;exact⟨ok,ov,k it (by simp) _ e⟩
 item:=by
  intro X hP hw hK hc i pins s σ H E I hf st hg;subst hP hw hK;obtain⟨hfr,hlt⟩:=hg;obtain⟨ok,ov,he⟩:=st;have so:s.heap.get? a=some o:=(I.hok a _ hfr).1;have hat' :s.heap.DictAt (aU X.prog X.w) a vs ep:=hat.at' fun o' e=>by rw[ho]at e;cases e;exact so
  have hl:kvs.length=vs.length:=rel.length;obtain⟨⟨k,x⟩,hx⟩:∃q,kvs[i]? =some q:=⟨kvs[i],by simp[hlt]⟩;have key:∀{kvs:List (ac×V)}{vs:List (ac×Value)}{i:Nat}{q:ac×V},KV kvs vs->kvs[i]? =some q->∃v,vs[i]? =some (q.1,v)/\RelV q.2 v:=by
   intro kvs vs i q r
   induction r generalizing i with
   | nil=>intro e;simp at e
   | cons a t ih =>
    intro e;cases i with
    | zero =>
     simp at e;subst e;rename_i c _ _;exact⟨c.2,by simp[a.1],a.2⟩
    | succ i=>simpa using ih (by simpa using e)
  obtain⟨v,hv,rv⟩:=key rel hx;have ilt:it<s.heap.objs.size:=EA he;refine wpAny_pyNext_items_item he hat' hv fun kv h' hkey hout hT hsz hk=> ?_;refine⟨_,rfl,wpAny_letOwnedTupleGo_items (s:={s with heap:=h'}) hout fun h'' he' hs' => ?_⟩;have kk:∀c o,c∉[it]->s.heap.get? c=some o->h''.get? c=some o:=fun c o hc' y=>by
   have hc2:c≠it:=by simpa using hc'
   exact(hs'.2 c hc2).trans (hk c o hc2 y)
  have new:h''.get? s.heap.objs.size=some {cls:=.type "tuple",data:=.seq #[kv,v]}:=(hs'.2 _ (Fi ilt)).trans hT
  have I1:Inv X pins σ (upd H s.heap.objs.size (.tup [kV k,x])) {s with heap:=h''} :=
   I.drew (t' :=s.toks) hf kk (Dx _) ⟨by show 2<=sizeLine;decide,[kv,v],.cons (Ae hkey) (.cons rv .nil),⟨_,new,rfl,_,rfl,rfl⟩⟩
  refine⟨.ref s.heap.objs.size,_,I1,rfl,⟨s.heap.objs.size,I.hok.fresh (Dx _),rfl,fun k' x' hx' => ?_⟩,⟨_,_,he'⟩,fun c hc' => ?_⟩
  ·rw[hx]at hx'
   cases hx';rfl
  ·have hc2:c=it:=by simpa using hc'
   subst hc2;rw[aB (EI ilt)];exact(hf c (by simp)).1
 done:=by
  intro X hP hw hK hc i pins s σ H E I hf st hg;subst hP hw hK;obtain⟨hfr,rfl⟩:=hg;obtain⟨ok,ov,he⟩:=st;have so:s.heap.get? a=some o:=(I.hok a _ hfr).1;have hat' :s.heap.DictAt (aU X.prog X.w) a vs ep:=hat.at' fun o' e=>by rw[ho]at e;cases e;exact so
  have hl:kvs.length=vs.length:=rel.length;exact wpAny_pyNext_items_end (I.ok.hd hc) he hat' (by rw[hl];simp) fun h' hk=>⟨rfl,I.drew0 (t' :=s.toks) hf fun c o hc' y=>hk c o (by simpa using hc') y⟩
 self:=fun A i s Q E st h=>by
  obtain⟨ok,ov,he⟩:=st;refine wpAny_pyIter_slot ⟨_,he,rfl⟩ PySem.F.slot_dict_itemiterator_iter (F1 PySem.F.slot_dict_itemiterator_iter ⟨_,he,rfl⟩ d0 ?_ (PySem.F.args_dict_itemiterator_iter_1 _));show wpAny _ _ (ret (.ref it)) _ _ s;exact ES ⟨_,rfl,"dict_itemiterator",_,⟨_,he,rfl⟩,PySem.F.slot_dict_itemiterator_next.lookup,h⟩
noncomputable def Ap(X:Cx)(td:TE):TI:=fun σ H R=>td σ H fun x H1=>∃a kvs,x=.ref a/\H1 a=some (.dK kvs)/\∀o,NF X a->R (Dk a o kvs) (upd H1 a (.frz o (.dK kvs)))
theorem mL{es:List Expr}{kt:Nat}{tpos:Pos}{o:Expr}{to:TE}{apos cpos:Pos}(ho:PE X o to)(hbase:attributeBase o "items" X.env (eval o X.env)=eval o X.env:=by rfl)(hline:(apos.endLine==cpos.line)=true:=by rfl) :
  PI X (.Tuple es kt tpos) (.Call (.Attribute o "items" apos) [] [] cpos) (Ap X to):=by
 intro pins s σ H R I h;refine wpAny_Call_method0_late hbase hline (aj (ho pins s σ H _ I h) fun v s1 hpq=> ?_);obtain⟨x,H1,I1,r1,q1⟩:=hpq;obtain⟨a,kvs,rfl,ha,q⟩:=q1;cases r1;obtain⟨z,hd,vs,rel,dd⟩:=jk I1.hok ha;obtain⟨ep,da⟩:=dd.dictAt;obtain⟨o1,es1,hob,hex,_⟩:=id da;refine⟨"dict","dict.items",Fg,PySem.F.slot_dict_items,PySem.F.type_dict_items,dd.typeIs,fun b e=> ?_,Ft rfl (PySem.evalArgs_none ?_)⟩
 ·cases e
  exact⟨o1,hob,hex.2.1⟩
 refine call_meetsIn PySem.F.slot_dict_items dd.typeIs PySem.F.entry_dict_items (PySem.F.args_dict_items_1 _) (meets_dict_items (aU X.prog X.w) a hd) ⟨⟨vs,dd⟩,?_⟩;have I2:Inv X pins σ H1 {s1 with heap:=s1.heap.push {cls:=.type "dict_items",data:=.fields #[.ref a]}}:=I1.kept (t' :=s1.toks) fun b u e=>Dr _ e;have da2:=da.push {cls:=.type "dict_items",data:=.fields #[.ref a]};refine wpAny_pyIter_items ⟨_,EB _ rfl,rfl,rfl⟩ da2 ?_;have lt:a<s1.heap.objs.size:=EA hob;have I3:=I2.kept (t' :=s1.toks) (h' :=(s1.heap.push {cls:=.type "dict_items",data:=.fields #[.ref a]}).push {cls:=.type "dict_itemiterator",data:=.fields #[.none,.bool false,.ref a,.int 0 0,.int vs.length 0,.int ep 0,.none,.none]}) fun b u e=>Dr _ e;have hob3:((s1.heap.push {cls:=.type "dict_items",data:=.fields #[.ref a]}).push {cls:=.type "dict_itemiterator",data:=.fields #[.none,.bool false,.ref a,.int 0 0,.int vs.length 0,.int ep 0,.none,.none]}).get? a=some o1:=Dr _ (Dr _ hob);have I4:=I3.known ha hob3;refine⟨(s1.heap.push {cls:=.type "dict_items",data:=.fields #[.ref a]}).objs.size,[(s1.heap.push {cls:=.type "dict_items",data:=.fields #[.ref a]}).objs.size],_,_,_,rfl,I4,nW (o:=o1) (h0:=s1.heap) (EI (by rw[size_push'];exact Ew lt)) rel da hob,⟨_,_,EB _ rfl⟩,fun c hc=> ?_,q o1 (I1.nf ha)⟩;have e:c=(s1.heap.push {cls:=.type "dict_items",data:=.fields #[.ref a]}).objs.size:=by simpa using hc
 subst e;refine(I2.fpOk (Dx _) ?_);rw[aB (Fi (by rw[size_push'];exact Ew lt))];exact I2.hok.fresh (Dx _)
noncomputable def thaw(X:Cx)(D:dJ):dJ where
 nx:=fun σ H=>∃a o kvs,H a=some (.frz o (.dK kvs))/\NF X a/\D.nx σ (upd H a (.dK kvs))
 bk:=fun σ H=>∃a o kvs,H a=some (.frz o (.dK kvs))/\NF X a/\D.bk σ (upd H a (.dK kvs))
 ct:=fun σ H=>∃a o kvs,H a=some (.frz o (.dK kvs))/\NF X a/\D.ct σ (upd H a (.dK kvs))
 rt:=fun v H=>∃a o kvs,H a=some (.frz o (.dK kvs))/\NF X a/\D.rt v (upd H a (.dK kvs))
theorem wU{st:Stmt}{t:TS}(h:PS X st t):PS X st (fun D σ H=>t (thaw X D) σ H):=by
 intro pins s σ H D I hr;refine aj (h pins s σ H _ I hr) fun f s1 q=> ?_;cases f with
 | next =>
  obtain⟨σ',H',I',a,o,kvs,ha,nf,q⟩:=q;exact⟨σ',_,I'.unknown nf ha,q⟩
 | brk =>
  obtain⟨σ',H',I',a,o,kvs,ha,nf,q⟩:=q;exact⟨σ',_,I'.unknown nf ha,q⟩
 | cont =>
  obtain⟨σ',H',I',a,o,kvs,ha,nf,q⟩:=q;exact⟨σ',_,I'.unknown nf ha,q⟩
 | ret v =>
  obtain⟨σ',x,H',I',rx,a,o,kvs,ha,nf,q⟩:=q;exact⟨σ',x,_,I'.unknown nf ha,rx,q⟩
theorem qx{a:Addr}{o:Obj}{kvs:List (ac×V)}{g:TG}{tb:TS}{D:dJ}{σ:St}{H:Hp}(Pv:Nat->St->Hp->Prop)(h0:Pv 0 σ H)(ha:∀i σ H,i<=kvs.length->Pv i σ H->H a=some (.frz o (.dK kvs)))
  (hs:∀i k x p σ H,kvs[i]? =some (k,x)->H p=none->Pv i σ H->g (.ref p) σ (upd H p (.tup [kV k,x])) fun σ2 H2=>tb {D with nx:=Pv (i+1),ct:=Pv (i+1),bk:=D.nx} σ2 H2) (hd:∀σ H,Pv kvs.length σ H->D.nx σ H) :
  ∃W:Nat->Nat->St->Hp->Prop,(∃m,W 0 m σ H)/\∀i m σ H,W i m σ H ->
   ((Dk a o kvs).stop i H/\D.nx σ H)\/((Dk a o kvs).go i H/\∃N:St->Hp->Prop,(∀σ' H',N σ' H' ->∃m',m' <m/\W (i+1) m' σ' H')/\∀x H',(Dk a o kvs).yld i H x H' ->g x σ H' fun σ2 H2=>tb {D with nx:=N,ct:=N,bk:=D.nx} σ2 H2):=by
 refine⟨fun i m σ H=>m=kvs.length-i/\i<=kvs.length/\Pv i σ H,⟨kvs.length,by simp,EY _,h0⟩,?_⟩;rintro i m σ H ⟨rfl,hi,p⟩;have qa:=ha i σ H hi p
 by_cases hlt:i<kvs.length
 ·have ex:kvs[i]? =some kvs[i]:=by simp[hlt]
  refine .inr ⟨⟨qa,hlt⟩,Pv (i+1),fun σ' H' p' =>⟨kvs.length-(i+1),by omega,rfl,hlt,p'⟩,fun x H' y=> ?_⟩;obtain⟨pp,hn,rfl,y⟩:=y;have e:=y kvs[i].1 kvs[i].2 ex;subst e;exact hs i _ _ pp σ H ex hn p
 ·have e:i=kvs.length:=by omega
  subst e;exact .inl ⟨⟨qa,rfl⟩,hd σ H p⟩
end
namespace RV
section
variable{prog:Program}{w:World}{A:Around}{E:Value->Shared->Prop}{s:Shared}{x:Str}{t:Tok}
end
end RV
end L2
namespace L2
open PySem PySem.Spec PyProof.Rows
namespace RV
noncomputable def Dl(h:Heap)(a:Addr)(x:Str)(t:Tok)(i:Int):Prop:=∃o,h.get? a=some o/\o.cls=.type "reversed"/\o.data=.fields #[.str x t,rawInt i]
section
variable{prog:Program}{w:World}{A:Around}{E:Value->Shared->Prop}{s:Shared}{x:Str}{t:Tok}{a:Addr}
theorem Dl.ty{i:Int}(r:Dl s.heap a x t i):s.TypeIs (.ref a) "reversed":=by
 obtain⟨o,e,c,_⟩:=r;exact⟨o,e,c⟩
end
end RV
end L2
namespace L2
open PySem PySem.Spec PyProof.Rows
namespace RV
section
variable{prog:Program}{w:World}{A:Around}{E:Value->Shared->Prop}{s:Shared}{x:Str}{t:Tok}{a:Addr}
end
end RV
end L2
namespace L2
open PySem PySem.Spec PyProof.Rows
namespace RV
open Builtin Builtin.Str Builtin.Int
section
variable{prog:Program}{w:World}{A:Around}{E:Value->Shared->Prop}{s:Shared}{x sep:Str}{t u:Tok}{a:Addr}
end
end RV
section
variable{X:Cx}
end
end L2
namespace L2
open PySem PySem.Spec PyProof.Rows
section
variable{X:Cx}
section
variable{prog:Program}{w:World}{A:Around}{E:Value->Shared->Prop}{s:Shared}{d:Addr}{od:Obj}{es:Array DictEntry}{ep:Nat}
end
section
variable{prog:Program}{w:World}{A:Around}{E:Value->Shared->Prop}{s:Shared}
end
end
section
variable{prog:Program}{w:World}{A:Around}{E:Value->Shared->Prop}{s:Shared}
end
section
variable{X:Cx}
end
end L2
namespace SQ
open PySem
noncomputable def lst(m:Nat):List Nat:=(List.range 8).filter fun v=>m/2^v%2==1
noncomputable def put(m v:Nat):Nat:=if m/2^v%2=1 then m else m+2^v
noncomputable def tab(led:Bool)(m:Nat):SetTable:={mask:=if(lst m).length<5 then 7 else 31,place:=(lst m).toArray,dummies:= #[],finger:=0,led:=led,moves:=if(lst m).length<5 then 0 else 1,plain:=true}
noncomputable def at_(m v:Nat):Nat:=((lst m).filter (·<v)).length
noncomputable def qb:Value->Option Int
 | .int i _=>some i
 | _=>none
theorem qZ{x:Value}{i:Int}(h:qb x=some i):∃t,x=.int i t:=by
 cases x<;>simp[qb]at h;subst h;exact⟨_,rfl⟩
noncomputable def o0(es:List (Int×Value))(m:Nat):Prop:=es.map (fun e=>(e.1,qb e.2))=(lst m).map fun v:Nat=>((v:Int),some (v:Int))
noncomputable def SX(w:World)(a:Addr)(m:Nat)(h:Heap):Prop:=∃o es ep,h.get? a=some o/\o.ExactSet/\o.data=.set es ep (tab (!w.params.followText "set-order") m)/\o0 es.toList m
theorem o0.len{es:List (Int×Value)}{m:Nat}(h:o0 es m):es.length=(lst m).length:=by
 have:=Ek List.length h
 simpa using this
theorem o0.at{es:List (Int×Value)}{m:Nat}(h:o0 es m){e:Int×Value}(he:e∈es):∃v t,v∈lst m/\e=((v:Int),.int (v:Int) t):=by
 have:(e.1,qb e.2)∈es.map (fun e=>(e.1,qb e.2)):=Dv.mpr ⟨e,he,rfl⟩;rw[h]at this;obtain⟨v,hv,q⟩:=Dv.mp this;obtain⟨e1,e2⟩:=e;simp only[Prod.mk.injEq]at q;obtain⟨t,z⟩:=qZ q.2.symm;exact⟨v,t,hv,by rw[z,<-q.1]⟩
theorem o0.has{es:List (Int×Value)}{m:Nat}(h:o0 es m){v:Nat}(hv:v∈lst m):∃t,((v:Int),Value.int (v:Int) t)∈es:=by
 have:((v:Int),some (v:Int))∈(lst m).map fun v:Nat=>((v:Int),some (v:Int)):=Dv.mpr ⟨v,hv,rfl⟩;rw[<- h]at this;obtain⟨e,he,q⟩:=Dv.mp this;obtain⟨u,t,-,rfl⟩:=h.at he;simp only[qb,Prod.mk.injEq]at q;have:u=v:=by omega
 subst this;exact⟨t,he⟩
section
variable{prog:Program}{w:World}{A:Around}{E:Value->Shared->Prop}{s:Shared}
end
noncomputable def Cd(f:Nat->Nat):Nat->Nat->Nat->Nat
 | 0,_,m=>m
 | k+1,i,m=>Cd f k (i+1) (put m (f i))
theorem SX.at{w:World}{a:Addr}{m:Nat}{h h' :Heap}(x:SX w a m h)(k:∀o,h.get? a=some o->h'.get? a=some o):SX w a m h' :=
 let⟨o,es,ep,ho,r⟩:=x
 ⟨o,es,ep,k o ho,r⟩
section
variable{prog:Program}{w:World}{A:Around}{E:Value->Shared->Prop}
variable{s:Shared}
noncomputable def bare(led:Bool):Obj:={cls:=.type "set",dict:=none,data:=.set #[] 0 (.fresh 0 0 led)}
end
section
variable{prog:Program}{w:World}{A:Around}{E:Value->Shared->Prop}{s:Shared}
end
noncomputable def vU(I a i n ep j:Nat)(h:Heap):Prop:=∃o,h.get? I=some o/\o.cls=.type "set_iterator"/\o.data=.fields #[.int (j:Nat) 0,.int (i:Nat) 0,.ref a,.int (n:Nat) 0,.int (ep:Nat) 0]
theorem vU.typeIs{I a i n ep j:Nat}{s:Shared}(x:vU I a i n ep j s.heap):s.TypeIs (.ref I) "set_iterator":=let⟨o,ho,hc,_⟩:=x;⟨o,ho,hc⟩
theorem vU.keep{I a i n ep j:Nat}{h h' :Heap}(x:vU I a i n ep j h)(k:∀o,h.get? I=some o->h'.get? I=some o):vU I a i n ep j h' :=let⟨o,ho,r⟩:=x;⟨o,k o ho,r⟩
section
variable{prog:Program}{w:World}{A:Around}
end
section
variable{prog:Program}{w:World}{A:Around}{E:Value->Shared->Prop}{s:Shared}
end
end SQ
namespace SQ
open PySem PyProof.Rows
section
variable{prog:Program}{w:World}{A:Around}{E:Value->Shared->Prop}{s:Shared}
end
end SQ
namespace L2
open PySem PySem.Spec PyProof.Rows
noncomputable def maskOf(ns:List Int):Nat:=SQ.Cd (fun i=>(ns.getD i 0).toNat) ns.length 0 0
noncomputable def yg(ns:List Int):List Int:=(SQ.lst (maskOf ns)).map fun v:Nat=>(v:Int)
section
variable{X:Cx}
theorem Inv.ext{pins:List (Addr×Obj)}{σ:St}{H:Hp}{s:Shared}{a:Addr}{φ:Heap->Prop}(I:Inv X pins σ H s)(h:H a=some (.ext φ)):φ s.heap:=(show ar X.prog X.w H s.heap a (.ext φ)from I.hok a _ h).1
end
end L2
namespace SW
open PySem.W PyProof.Rows
noncomputable def run{α:Type}(f:Nat->Nat->Bool):KasT α->α
 | .ret a=>a
 | .ask i j k=>run f (k (f i j))
theorem cg{α β:Type}(f:Nat->Nat->Bool)(g:α->KasT β):∀t:KasT α,run f (t.bind g)=run f (g (run f t))
 | .ret _=>rfl
 | .ask i j k=>cg f g (k (f i j))
section
variable(key:Nat->Int)
noncomputable def F:Nat->Nat->Bool:=fun i j=>decide (key i<key j)
noncomputable def K(p:Array Nat)(i:Nat):Int:=key (p.getD i 0)
noncomputable def sC(p:Array Nat)(k:Nat):Prop:=∀i,i+1<k->K key p i<=K key p (i+1)
noncomputable def yO(p:Array Nat)(k:Nat):Prop:=∀i,i+1<k->K key p (i+1)<=K key p i
variable{key}
theorem sC.le{p:Array Nat}{k:Nat}(h:sC key p k):∀(d i:Nat),i+d<k->K key p i<=K key p (i+d)
 | 0,_,_=>Fh _
 | d+1,i,hk=>Int.le_trans (sC.le h d i (by omega)) (h (i+d) (by omega))
theorem sC.mono{p:Array Nat}{k:Nat}(h:sC key p k){i j:Nat}(hij:i<=j)(hj:j<k):K key p i<=K key p j:=by
 have:=h.le (j-i) i (by omega)
 rwa [show i+(j-i)=j by omega]at this
theorem yO.le{p:Array Nat}{k:Nat}(h:yO key p k):∀(d i:Nat),i+d<k->K key p (i+d)<=K key p i
 | 0,_,_=>Fh _
 | d+1,i,hk=>Int.le_trans (h (i+d) (by omega)) (yO.le h d i (by omega))
theorem yO.mono{p:Array Nat}{k:Nat}(h:yO key p k){i j:Nat}(hij:i<=j)(hj:j<k):K key p j<=K key p i:=by
 have:=h.le (j-i) i (by omega)
 rwa [show i+(j-i)=j by omega]at this
theorem vT{p:Array Nat}{i j:Nat}(hj:j<=p.size)(x:Nat):K key (kas_rev p i j) x=if i<=x/\x<j then K key p (i+j-1-x)else K key p x:=by
 unfold K kas_rev;rw[Em,getElem?_mirror_all hj]
 split
 ·rw[Em]
 ·rw[Em]
theorem asc(p:Array Nat):∀k n,n<=run (F key) (kas_asc p k n)/\run (F key) (kas_asc p k n)<=n+k/\(∀i,n<=i->i<run (F key) (kas_asc p k n)->K key p (i-1)<=K key p i) /\
  (run (F key) (kas_asc p k n)<n+k->K key p (run (F key) (kas_asc p k n))<K key p (run (F key) (kas_asc p k n)-1))
 | 0,n=>⟨Dx _,Dx _,fun i h1 h2=>absurd (show i<n from h2) (by omega),fun h=>absurd (show n<n+0 from h) (by omega)⟩
 | k+1,n=>by
  have e:run (F key) (kas_asc p (k+1) n)=if K key p n<K key p (n-1)then n else run (F key) (kas_asc p k (n+1)):=by
   show run (F key) (if F key (p.getD n 0) (p.getD (n-1) 0)=true then .ret n else kas_asc p k (n+1))=_;unfold F K
   by_cases c:key (p.getD n 0)<key (p.getD (n-1) 0)
   ·rw[D3 (by simpa using c),D3 c]
    rfl
   ·rw[Dz (by simpa using c),Dz c]
  rw[e]
  by_cases c:K key p n<K key p (n-1)
  ·rw[D3 c]
   exact⟨Dx _,by omega,fun i h1 h2=>by omega,fun _=>c⟩
  ·rw[Dz c]
   obtain⟨a1,a2,a3,a4⟩:=asc p k (n+1);refine⟨by omega,by omega,fun i h1 h2=> ?_,fun h=>a4 (by omega)⟩
   rcases Nat.lt_or_ge n i with h|h
   ·exact a3 i h h2
   ·have:i=n:=by omega
    subst this;omega
structure Dn(p:Array Nat)(n q:Nat):Prop where
 one:q+1<=n
 sz:n<=p.size
 fal:yO key p n
 eqs:∀i,n-(q+1)<=i->i<n->K key p i=K key p (n-1)
theorem ez(p:Array Nat)(i j:Nat):(kas_rev p i j).size=p.size:=mirror_size _ _ _ _
theorem iw{p:Array Nat}{i j:Nat}(hj:j<=p.size)(h:∀x,i<=x->x<j->K key p x=K key p (j-1))(x:Nat):K key (kas_rev p i j) x=K key p x:=by
 rw[vT hj]
 split
 ·rename_i c
  rw[h (i+j-1-x) (by omega) (by omega),h x c.1 c.2]
 ·rfl
theorem xi:∀(k:Nat)(p:Array Nat)(n q:Nat),Dn (key:=key) p n q->n+k<=p.size ->
  Dn (key:=key) (run (F key) (kas_desc k p n q)).1 (run (F key) (kas_desc k p n q)).2.1 (run (F key) (kas_desc k p n q)).2.2/\(run (F key) (kas_desc k p n q)).1.Perm p/\(run (F key) (kas_desc k p n q)).2.1<=n+k
 | 0,p,n,q,h,_=>⟨h,Fx _,Dx _⟩
 | k+1,p,n,q,h,hk=>by
  have h1:=h.one;have e:run (F key) (kas_desc (k+1) p n q)=if K key p n<K key p (n-1)then(if q>0 then run (F key) (kas_desc k (kas_rev p (n-(q+1)) n) (n+1) 0)else run (F key) (kas_desc k p (n+1) 0))else if K key p (n-1)<K key p n then(p,n,q)else run (F key) (kas_desc k p (n+1) (q+1)):=by
   show run (F key) (if F key (p.getD n 0) (p.getD (n-1) 0)=true then(if q>0 then kas_desc k (kas_rev p (n-(q+1)) n) (n+1) 0 else kas_desc k p (n+1) 0)else .ask (p.getD (n-1) 0) (p.getD n 0) fun d=>if d=true then .ret (p,n,q)else kas_desc k p (n+1) (q+1))=_
   by_cases c:K key p n<K key p (n-1)
   ·rw[D3 (show F key (p.getD n 0) (p.getD (n-1) 0)=true by simpa [F,K]using c),D3 c]
    split<;>rfl
   ·rw[Dz (show¬F key (p.getD n 0) (p.getD (n-1) 0)=true by simpa [F,K]using c),Dz c]
    show run (F key) (if F key (p.getD (n-1) 0) (p.getD n 0)=true then .ret (p,n,q)else kas_desc k p (n+1) (q+1))=_
    by_cases d:K key p (n-1)<K key p n
    ·rw[D3 (show F key (p.getD (n-1) 0) (p.getD n 0)=true by simpa [F,K]using d),D3 d]
     rfl
    ·rw[Dz (show¬F key (p.getD (n-1) 0) (p.getD n 0)=true by simpa [F,K]using d),Dz d]
  have longer:∀p' :Array Nat,p'.size=p.size->(∀x,K key p' x=K key p x)->K key p n<=K key p (n-1)->yO key p' (n+1):=fun p' z kk c i hi=>by
   rw[kk,kk]
   rcases Nat.lt_or_ge (i+1) n with y|y
   ·exact h.fal i y
   ·have:i=n-1:=by omega
    subst this;rw[show n-1+1=n by omega];exact c
  have new:∀p' :Array Nat,p'.size=p.size->(∀x,K key p' x=K key p x)->K key p n<=K key p (n-1)->Dn (key:=key) p' (n+1) 0:=fun p' z kk c =>
   ⟨by omega,by omega,longer p' z kk c,fun i i1 i2=>by
    have:i=n+1-1:=by omega
    rw[this]⟩
  rw[e]
  by_cases c:K key p n<K key p (n-1)
  ·rw[D3 c]
   by_cases hq:q>0
   ·rw[D3 hq]
    have kk:=iw (key:=key) (i:=n-(q+1)) h.sz h.eqs;obtain⟨a1,a2,a3⟩:=xi k (kas_rev p (n-(q+1)) n) (n+1) 0 (new _ (ez _ _ _) kk (by omega)) (by rw[ez];omega);exact⟨a1,a2.trans (Fn _ _ _ _),by omega⟩
   ·rw[Dz hq]
    obtain⟨a1,a2,a3⟩:=xi k p (n+1) 0 (new p rfl (fun _=>rfl) (by omega)) (by omega);exact⟨a1,a2,by omega⟩
  ·rw[Dz c]
   by_cases d:K key p (n-1)<K key p n
   ·rw[D3 d]
    exact⟨h,Fx _,by dsimp only;omega⟩
   ·rw[Dz d]
    obtain⟨a1,a2,a3⟩:=xi k p (n+1) (q+1) ⟨by omega,by omega,longer p rfl (fun _=>rfl) (by omega),fun i i1 i2=>by
     have z:K key p n=K key p (n-1):=by omega
     rw[show n+1-1=n by omega,z]
     rcases Nat.lt_or_ge i n with y|y
     ·exact h.eqs i (by omega) y
     ·have:i=n:=by omega
      rw[this,z]⟩ (by omega)
    exact⟨a1,a2,by omega⟩
noncomputable def Good(p:Array Nat)(nrem:Nat)(r:Nat×Array Nat):Prop:=1<=r.1/\r.1<=nrem/\sC key r.2 r.1/\r.2.Perm p
theorem tail3{p:Array Nat}{n nrem:Nat}(h1:1<=n)(hn:n<=nrem)(hz:nrem<=p.size)(hf:yO key p n):Good (key:=key) p nrem (run (F key) (kas_tail3 n nrem p)):=by
 unfold kas_tail3;rw[cg];obtain⟨a1,a2,a3,-⟩:=asc (key:=key) (kas_rev p 0 n) (nrem-n) n;refine⟨by show 1<=run (F key) (kas_asc (kas_rev p 0 n) (nrem-n) n);omega,by show run (F key) (kas_asc (kas_rev p 0 n) (nrem-n) n)<=nrem;omega,fun i hi=> ?_,Fn _ _ _ _⟩;show K key (kas_rev p 0 n) i<=K key (kas_rev p 0 n) (i+1);have hi:i+1<run (F key) (kas_asc (kas_rev p 0 n) (nrem-n) n):=hi
 rcases Nat.lt_or_ge (i+1) n with y|y
 ·rw[vT (by omega),vT (by omega),D3 (by omega),D3 (by omega)]
  exact hf.mono (by omega) (by omega)
 ·have:=a3 (i+1) y hi
  rwa [show i+1-1=i by omega]at this
theorem descPart{p:Array Nat}{n nrem:Nat}(h1:1<=n)(hn:n+1<=nrem)(hz:nrem<=p.size)(hf:yO key p (n+1)):Good (key:=key) p nrem (run (F key) (kas_descPart n nrem p)):=by
 unfold kas_descPart;rw[cg];obtain⟨d,pm,le⟩:=xi (key:=key) (nrem-(n+1)) p (n+1) 0 ⟨by omega,by omega,hf,fun i i1 i2=>by
  have:i=n+1-1:=by omega
  rw[this]⟩ (by omega)
 generalize run (F key) (kas_desc (nrem-(n+1)) p (n+1) 0)=r at d pm le
 obtain⟨p',n',q'⟩:=r;dsimp only at d pm le ⊢;have h1' :=d.one;have hz' :p'.size=p.size:=pm.size_eq
 split
 ·have kk:=iw (key:=key) (i:=n' -(q' +1)) d.sz d.eqs
  obtain⟨b1,b2,b3,b4⟩:=tail3 (key:=key) (p:=kas_rev p' (n' -(q' +1)) n') (n:=n') (nrem:=nrem) (by omega) (by omega) (by rw[ez];omega) (fun i hi=>by rw[kk,kk];exact d.fal i hi);exact⟨b1,b2,b3,(b4.trans (Fn _ _ _ _)).trans pm⟩
 ·obtain⟨b1,b2,b3,b4⟩:=tail3 (key:=key) (p:=p') (n:=n') (nrem:=nrem) (by omega) (by omega) (by omega) d.fal
  exact⟨b1,b2,b3,b4.trans pm⟩
theorem count{p:Array Nat}{nrem:Nat}(h1:1<=nrem)(hz:nrem<=p.size):Good (key:=key) p nrem (run (F key) (kas_count nrem p)):=by
 unfold kas_count;rw[cg];obtain⟨a1,a2,a3,a4⟩:=asc (key:=key) p (nrem-1) 1
 generalize run (F key) (kas_asc p (nrem-1) 1)=n at a1 a2 a3 a4
 have srt:sC key p n:=fun i hi=>by
  have:=a3 (i+1) (by omega) hi
  rwa [show i+1-1=i by omega]at this
 by_cases e:n=nrem
 ·rw[D3 (by simpa using e)]
  exact⟨a1,by show n<=nrem;omega,srt,Fx _⟩
 ·rw[Dz (by simpa using e)]
  have lt:=a4 (by omega)
  by_cases h:n>1
  ·rw[D3 h]
   show Good p nrem (run (F key) (if F key (p.getD 0 0) (p.getD (n-1) 0)=true then .ret (n,p)else kas_descPart n nrem (kas_rev p 0 n)))
   by_cases c:K key p 0<K key p (n-1)
   ·rw[D3 (show F key (p.getD 0 0) (p.getD (n-1) 0)=true by simpa [F,K]using c)]
    exact⟨a1,by show n<=nrem;omega,srt,Fx _⟩
   ·rw[Dz (show¬F key (p.getD 0 0) (p.getD (n-1) 0)=true by simpa [F,K]using c)]
    have alike:∀x,0<=x->x<n->K key p x=K key p (n-1):=fun x _ hx=>by
     have y1:=srt.mono (show 0<=x by omega) hx;have y2:=srt.mono (show x<=n-1 by omega) (by omega);omega
    have kk:=iw (key:=key) (i:=0) (j:=n) (by omega) alike;obtain⟨b1,b2,b3,b4⟩:=descPart (key:=key) (p:=kas_rev p 0 n) (n:=n) (nrem:=nrem) a1 (by omega) (by rw[ez];omega) (fun i hi=>by
     rw[kk,kk]
     rcases Nat.lt_or_ge (i+1) n with y|y
     ·rw[alike (i+1) (by omega) y,alike i (by omega) (by omega)]
      exact Fh _
     ·have:i=n-1:=by omega
      subst this;rw[show n-1+1=n by omega];omega)
    exact⟨b1,b2,b3,b4.trans (Fn _ _ _ _)⟩
  ·rw[Dz h]
   have:n=1:=by omega
   subst this;exact descPart (key:=key) (by omega) (by omega) hz (fun i hi=>by
    have:i=0:=by omega
    subst this;have lt:K key p (0+1)<K key p 0:=lt;exact Int.le_of_lt lt)
theorem place{p:Array Nat}{n:Nat}(hs:sC key p n):∀(k l r:Nat),l<=r->r<=n->r-l<=k->(∀i,i<l->K key p i<=K key p n)->(∀i,r<=i->i<n->K key p n<K key p i) ->
  run (F key) (kas_place p n k l r)<=n/\(∀i,i<run (F key) (kas_place p n k l r)->K key p i<=K key p n)/\∀i,run (F key) (kas_place p n k l r)<=i->i<n->K key p n<K key p i
 | 0,l,r,lr,rn,hk,h1,h2=>by
  have:l=r:=by omega
  subst this;exact⟨rn,h1,h2⟩
 | k+1,l,r,lr,rn,hk,h1,h2=>by
  unfold kas_place
  by_cases e:l ≥ r
  ·have:l=r:=by omega
   subst this;rw[D3 e];exact⟨rn,h1,h2⟩
  ·rw[Dz e]
   have hm:(l+r)/2<r:=by omega
   have hm2:l<=(l+r)/2:=by omega
   show run (F key) (if F key (p.getD n 0) (p.getD ((l+r)/2) 0)=true then kas_place p n k l ((l+r)/2)else kas_place p n k ((l+r)/2+1) r)<=n/\_;show(fun t=>run (F key) t<=n/\(∀i,i<run (F key) t->K key p i<=K key p n)/\∀i,run (F key) t<=i->i<n->K key p n<K key p i) (if F key (p.getD n 0) (p.getD ((l+r)/2) 0)=true then kas_place p n k l ((l+r)/2)else kas_place p n k ((l+r)/2+1) r)
   by_cases c:K key p n<K key p ((l+r)/2)
   ·rw[D3 (show F key (p.getD n 0) (p.getD ((l+r)/2) 0)=true by simpa [F,K]using c)]
    refine place hs k l ((l+r)/2) hm2 (by omega) (by omega) h1 fun i i1 i2=> ?_;exact Int.lt_of_lt_of_le c (hs.mono i1 i2)
   ·rw[Dz (show¬F key (p.getD n 0) (p.getD ((l+r)/2) 0)=true by simpa [F,K]using c)]
    refine place hs k ((l+r)/2+1) r (by omega) rn (by omega) (fun i hi=> ?_) h2;exact Int.le_trans (hs.mono (show i<=(l+r)/2 by omega) (by omega)) (by omega)
theorem Dh{p:Array Nat}{n L:Nat}(hn:n<p.size)(hL:L<=n)(x:Nat):K key (bubble p n (n-L)) x=if x=L then K key p n else if L<x/\x<=n then K key p (x-1)else K key p x:=by
 unfold K;rw[Em,getElem?_bubble hn _ (by omega),show n-(n-L)=L by omega];rw[Em (i:=n),Em (i:=x-1),Em (i:=x)]
 split
 ·rfl
 ·split
  ·rfl
  ·rfl
theorem bin:∀(k:Nat)(p:Array Nat)(n:Nat),n+k<=p.size->sC key p n->sC key (run (F key) (kas_bin k p n)) (n+k)/\(run (F key) (kas_bin k p n)).Perm p
 | 0,p,n,_,h=>⟨h,Fx _⟩
 | k+1,p,n,hk,h=>by
  unfold kas_bin;rw[cg];obtain⟨b1,b2,b3⟩:=place (key:=key) h n 0 n (by omega) (by omega) (by omega) (fun i hi=>by omega) (fun i i1 i2=>by omega)
  generalize run (F key) (kas_place p n n 0 n)=L at b1 b2 b3
  have kb:=Dh (key:=key) (p:=p) (n:=n) (L:=L) (by omega) b1;have hs:sC key (bubble p n (n-L)) (n+1):=fun i hi=>by
   rw[kb,kb]
   by_cases e1:i=L
   ·rw[D3 e1,Dz (by omega),D3 (by omega)]
    have:=b3 (i+1-1) (by omega) (by omega);omega
   ·rw[Dz e1]
    by_cases e2:i+1=L
    ·rw[D3 e2,Dz (by omega)]
     exact b2 i (by omega)
    ·rw[Dz e2]
     by_cases e3:L<i/\i<=n
     ·rw[D3 e3,D3 (by omega)]
      exact h.mono (by omega) (by omega)
     ·rw[Dz e3,Dz (by omega)]
      exact h.mono (by omega) (by omega)
  obtain⟨c1,c2⟩:=bin k (bubble p n (n-L)) (n+1) (by rw[bubble_size];omega) hs;exact⟨by rw[show n+(k+1)=n+1+k by omega];exact c1,c2.trans (bubble_perm _ _ _)⟩
theorem sort{n:Nat}(h:1<=n):(run (F key) (kas_sort n)).toList.Perm (List.range n)/\((run (F key) (kas_sort n)).toList.map key).Pairwise (·<=·):=by
 have core:(run (F key) (kas_sort n)).Perm (List.toArray (List.range n))/\sC key (run (F key) (kas_sort n)) n:=by
  unfold kas_sort;rw[cg];obtain⟨a1,a2,a3,a4⟩:=count (key:=key) (p:=List.toArray (List.range n)) h (by simp)
  generalize run (F key) (kas_count n (List.toArray (List.range n)))=r at a1 a2 a3 a4
  have hz:r.2.size=n:=by rw[a4.size_eq];simp
  split
  ·have:max r.1 1=r.1:=by omega
   rw[this];obtain⟨b1,b2⟩:=bin (key:=key) (n-r.1) r.2 r.1 (by omega) a3;exact⟨b2.trans a4,by rw[show n=r.1+(n-r.1)by omega];rw[show r.1+(n-r.1)-r.1=n-r.1 by omega];exact b1⟩
  ·have:r.1=n:=by omega
   exact⟨a4,by rw[<- this];exact a3⟩
 obtain⟨c1,c2⟩:=core;have pm:=Array.perm_iff_toList_perm.mp c1;refine⟨by simpa using pm,?_⟩
 generalize run (F key) (kas_sort n)=p at c1 c2 pm
 have hl:p.toList.length=n:=by rw[pm.length_eq];simp
 rw[List.pairwise_iff_getElem];intro i j hi hj hij;rw[Dp]at hi hj;rw[FX,FX];have:=c2.mono (show i<=j by omega) (by omega);unfold K at this;rw[EQ]at hi hj
 simpa [Array.getD,hi,hj]using this
end
end SW
namespace SW
open PySem PySem.W PyProof.Rows
noncomputable def Ok{α:Type}(n:Nat)(P:α->Prop):KasT α->Prop
 | .ret a=>P a
 | .ask i j k=>i<n/\j<n/\∀b,Ok n P (k b)
theorem Ok.bind{α β:Type}{n:Nat}{P:α->Prop}{R:β->Prop}{g:α->KasT β}(hg:∀a,P a->Ok n R (g a)):∀{t:KasT α},Ok n P t->Ok n R (t.bind g)
 | .ret a,h=>hg a h
 | .ask i j k,h=>⟨h.1,h.2.1,fun b=>Ok.bind hg (h.2.2 b)⟩
theorem Ok.wp{α:Type}{n:Nat}{P:α->Prop}{cmp:Nat->Nat->(Bool->Shared->Prop)->Shared->Prop}{f:Nat->Nat->Bool}{Q:α->Shared->Prop}{s:Shared}(hc:∀i j C,i<n->j<n->C (f i j) s->cmp i j C s) :
  ∀{t:KasT α},Ok n P t->Q (run f t) s->t.kasWp cmp Q s
 | .ret a,_,h=>h
 | .ask i j k,o,h=>hc i j _ o.1 o.2.1 (Ok.wp hc (o.2.2 _) h)
noncomputable def B(n:Nat)(p:Array Nat):Prop:=∀x,p.getD x 0<n
theorem B.perm{n:Nat}{p p' :Array Nat}(hn:0<n)(h:B n p)(pm:p'.Perm p):B n p' :=fun x=>by
 by_cases hx:x<p'.size
 ·have e:p'.getD x 0=p'[x]:=by simp[Array.getD,hx]
  have hm:p'[x]∈p'.toList:=Array.getElem_mem_toList hx;have hm:=(Array.perm_iff_toList_perm.mp pm).mem_iff.mp hm;obtain⟨i,hi,z⟩:=List.getElem_of_mem hm;have:=h i;rw[EQ]at hi;rw[e,<-z]
  simpa [Array.getD,hi]using this
 ·have e:p'.getD x 0=0:=by simp[Array.getD,hx]
  rw[e];exact hn
section
variable{n:Nat}(hn:0<n)
include hn
theorem oD{p:Array Nat}(h:B n p):∀k m,Ok n (fun _=>True) (kas_asc p k m)
 | 0,_=>trivial
 | k+1,m=>⟨h _,h _,fun b=>by cases b<;>first|exact trivial|exact oD h k (m+1)⟩
theorem gn:∀(k:Nat)(p:Array Nat)(m q:Nat),B n p->Ok n (fun r=>B n r.1) (kas_desc k p m q)
 | 0,p,_,_,h=>h
 | k+1,p,m,q,h=>⟨h _,h _,fun b=>by
  cases b with
  | true =>
   show Ok n _ (if q>0 then kas_desc k (kas_rev p (m-(q+1)) m) (m+1) 0 else kas_desc k p (m+1) 0)
   split
   ·exact gn k _ _ _ (h.perm hn (Fn _ _ _ _))
   ·exact gn k _ _ _ h
  | false=>exact⟨h _,h _,fun b=>by
    cases b
    ·exact gn k p (m+1) (q+1) h
    ·exact h⟩⟩
theorem mF{p:Array Nat}{m r:Nat}(h:B n p):Ok n (fun r=>B n r.2) (kas_tail3 m r p):=by
 unfold kas_tail3;refine Ok.bind (P:=fun _=>True) (fun _ _=> ?_) (oD hn (h.perm hn (Fn _ _ _ _)) _ _);exact h.perm hn (Fn _ _ _ _)
theorem gX{p:Array Nat}{m r:Nat}(h:B n p):Ok n (fun r=>B n r.2) (kas_descPart m r p):=by
 unfold kas_descPart;refine Ok.bind (P:=fun r=>B n r.1) (fun a ha=> ?_) (gn hn _ _ _ _ h)
 split
 ·exact mF hn (ha.perm hn (Fn _ _ _ _))
 ·exact mF hn ha
theorem uF{p:Array Nat}{r:Nat}(h:B n p):Ok n (fun r=>B n r.2) (kas_count r p):=by
 unfold kas_count;refine Ok.bind (P:=fun _=>True) (fun a _=> ?_) (oD hn h _ _)
 split
 ·exact h
 ·split
  ·exact⟨h _,h _,fun b=>by
    cases b
    ·exact gX hn (h.perm hn (Fn _ _ _ _))
    ·exact h⟩
  ·exact gX hn h
theorem iF{p:Array Nat}{m:Nat}(h:B n p):∀k l r,Ok n (fun _=>True) (kas_place p m k l r)
 | 0,_,_=>trivial
 | k+1,l,r=>by
  unfold kas_place
  split
  ·exact trivial
  ·exact⟨h _,h _,fun b=>by
    cases b
    ·exact iF h k _ _
    ·exact iF h k _ _⟩
theorem uG:∀(k:Nat)(p:Array Nat)(m:Nat),B n p->Ok n (fun p=>B n p) (kas_bin k p m)
 | 0,_,_,h=>h
 | k+1,p,m,h=>Ok.bind (fun l _=>uG k _ _ (h.perm hn (bubble_perm _ _ _))) (iF hn h _ _ _)
theorem ww:Ok n (fun p=>B n p) (kas_sort n):=by
 have h0:B n (List.toArray (List.range n)):=fun x=>by
  by_cases hx:x<n
  ·have:(List.toArray (List.range n)).getD x 0=x:=by simp[Array.getD,hx]
   omega
  ·have:(List.toArray (List.range n)).getD x 0=0:=by simp[Array.getD,hx]
   omega
 unfold kas_sort;refine Ok.bind (P:=fun r=>B n r.2) (fun r hr=> ?_) (uF hn h0)
 split
 ·exact uG hn _ _ _ hr
 ·exact hr
end
section
variable{prog:Program}{w:World}{A:Around}{E:Value->Shared->Prop}{s:Shared}
noncomputable def pQ(key:Nat->Int)(vs:List Value):List Value:=(run (F key) (kas_sort vs.length)).toList.map fun i=>vs.getD i Value.none
theorem wn{key:Nat->Int}{vs:List Value}(h:1<=vs.length):(pQ key vs).length=vs.length:=by
 unfold pQ;rw[Dp,(sort (key:=key) h).1.length_eq,EZ]
theorem xH{a:Addr}{vs:List Value}{n:Nat}{κ:SortKind}{key:Nat->Int}{P:PySem.Fin->Shared->Prop}(ho:s.heap.get? a=some (seqObj "list" vs.toArray n))(h2:2<=vs.length)(h64:vs.length<64)
  (hk:∀(s1:Shared)(Q:SortKind->Shared->Prop),(∀b o,b≠a->s.heap.get? b=some o->s1.heap.get? b=some o)->Q κ s1->wpAny (model prog w) A (keyKind' vs.toArray) Q E s1)
  (hc:∀(s1:Shared) i j C,(∀b o,b≠a->s.heap.get? b=some o->s1.heap.get? b=some o)->i<vs.length->j<vs.length->C (F key i j) s1->kas_ask prog w A κ vs i j C s1)
  (h:P (.done (.ret .none)) {s with heap:=sortedHeap s.heap a vs (pQ key vs).toArray}) :
  wpAny (model prog w) A (Builtin.«list.sort» ⟨[.ref a],[]⟩) P E s:=by
 have ha:a<s.heap.objs.size:=EA ho;rw[list_sort_plain];refine D6 (listItems_at ho rfl (D6 (listUpdate_at ho rfl ?_ (by rw[D9,Ej];omega) (EY _))));obtain⟨e1,g1⟩:∃e1,(s.heap.update a (Obj.mapSeq fun _=>(#[]:Array Value))).get? a=some (seqObj "list" #[] e1):=⟨_,get?_update_seq ho fun _=> #[]⟩;refine D6 (seqEpoch_at g1 rfl (D6 (wpAny_newTuple ?_ (by show vs.length<=_;rw[Ej];omega))));refine D6 (wpAny_newList ?_ (EY _));refine wpAny_holding ?_;have g2:(((s.heap.update a (Obj.mapSeq fun _=>(#[]:Array Value))).push (seqObj "tuple" vs.toArray 0)).push (seqObj "list" #[] 0)).get? a=some (seqObj "list" #[] e1):=Dr _ (Dr _ g1)
 have old:∀b o,b≠a->s.heap.get? b=some o->(((s.heap.update a (Obj.mapSeq fun _=>(#[]:Array Value))).push (seqObj "tuple" vs.toArray 0)).push (seqObj "list" #[] 0)).get? b=some o:=fun b o nb e =>
  Dr _ (Dr _ (by rw[Heap.get?_update_other _ _ (Fd nb)];exact e))
 show wpAny (model prog w) A _ P E {s with heap:=((s.heap.update a (Obj.mapSeq fun _=>(#[]:Array Value))).push (seqObj "tuple" vs.toArray 0)).push (seqObj "list" #[] 0)};dsimp only;have n2:¬vs.toArray.size<2:=by rw[D9];omega
 rw[Dz n2,Dz n2];refine D6 (hk _ _ old ?_)
 refine D6 (FB (kat_run (Q:=fun st' s' =>∃p:Array Nat,p=run (F key) (kas_sort vs.length)/\s' ={s with heap:=((s.heap.update a (Obj.mapSeq fun _=>(#[]:Array Value))).push (seqObj "tuple" vs.toArray 0)).push (seqObj "list" #[] 0)}/\arrOf st' =p.map (kas_item (vs.toArray.zip vs.toArray))/\failedOf st' =none)
  (G:=fun p s' =>p=run (F key) (kas_sort vs.length)/\s' ={s with heap:=((s.heap.update a (Obj.mapSeq fun _=>(#[]:Array Value))).push (seqObj "tuple" vs.toArray 0)).push (seqObj "list" #[] 0)})
  rfl h2 h64 (fun p' st' s' _ a2 a3 a4=>⟨p',a4.1,a4.2,a2,a3⟩) ((ww (by omega)).wp (fun i j C hi hj q=>hc _ i j C old hi hj q) ⟨rfl,rfl⟩)) ?_ fun _ _ e=>e)
 rintro⟨⟨⟩,st'⟩ s' ⟨p,rfl,rfl,har,hf⟩;dsimp only;have hout:(arrOf st').map (·.2)=(pQ key vs).toArray:=kat_snds rfl har;rw[hout];refine D6 (seqEpoch_at g2 rfl ?_);refine D6 (listUpdate_at g2 rfl ?_ (EY _) (by rw[D9,wn (by omega),Ej];omega));rw[hf];simp only[bne_self_eq_false,Bool.false_eq_true,if_false];exact ES h
end
end SW
set_option maxHeartbeats 400000
namespace SW
open PySem PySem.W PyProof.Rows
noncomputable def cZ(h:Heap)(v:Value)(q:Int×Int):Prop:=∃a t u,v=.ref a/\IsTup h a #[.int q.1 t,.int q.2 u]
theorem cZ.keep{h h' :Heap}{v:Value}{q:Int×Int}(x:cZ h v q)(k:∀b o,h.get? b=some o->h'.get? b=some o):cZ h' v q:=by
 obtain⟨a,t,u,e,z⟩:=x;exact⟨a,t,u,e,z.keeps k⟩
noncomputable def ck(q:Int×Int):Int:=1000*q.1+q.2
section
variable{prog:Program}{w:World}{A:Around}{E:Value->Shared->Prop}{s:Shared}
theorem xF{x y:Value}{p q:Int×Int}{C:Bool->Shared->Prop}(hx:cZ s.heap x p)(hy:cZ s.heap y q)(bp:0<=p.2/\p.2<1000)(bq:0<=q.2/\q.2<1000)(h:C (decide (ck p<ck q)) s):wpAny (model prog w) A (keyLt' (tuples' true) x y) C E s:=by
 obtain⟨a,t,u,rfl,o,ho,-,n,hd⟩:=hx;obtain⟨b,t',u',rfl,o',ho',-,n',hd'⟩:=hy;refine kat_lt ho hd ho' hd' ?_;unfold ck at h;refine kat_cons (wpAny_eqBool_int (kat_go (fun e=>kat_yes (kat_cons (wpAny_eqBool_int (kat_go (fun e2=>kat_yes (kat_nil ?_)) fun e2=>kat_no (kat_one _ _ (lt_int ?_)))))) fun e=>kat_no (oneLt_int ?_)))
 ·have e:=beq_iff_eq.mp e
  have e2:=beq_iff_eq.mp e2;rw[show decide (1000*p.1+p.2<1000*q.1+q.2)=false from EV (by omega)]at h;exact h
 ·have e:=beq_iff_eq.mp e
  show C (decide (p.2<q.2)) s;rw[show decide (1000*p.1+p.2<1000*q.1+q.2)=decide (p.2<q.2)from decide_eq_decide.mpr (by omega)]at h;exact h
 ·have e:p.1≠q.1:=fun z=>by rw[z]at e;simp at e
  rw[show decide (1000*p.1+p.2<1000*q.1+q.2)=decide (p.1<q.1)from decide_eq_decide.mpr (by omega)]at h;exact h
theorem oH{vs:List Value}{ps:List (Int×Int)}{Q:SortKind->Shared->Prop}(h1:1<=vs.length)(hp:Paired (cZ s.heap) vs ps)(h:Q (tuples' true) s):wpAny (model prog w) A (keyKind' vs.toArray) Q E s:=by
 obtain⟨fs,hf,hl,hi⟩:∃fs,KatTups s.heap vs fs/\fs.length=vs.length/\∀v∈fs,∃i t,v=.int i t:=by
  clear h1 h
  induction hp with
  | nil=>exact⟨[],.nil,rfl,fun v hv=>by cases hv⟩
  | cons r _ ih =>
   obtain⟨fs,a1,a2,a3⟩:=ih;obtain⟨a,t,u,rfl,o,ho,hc,n,hd⟩:=r;refine⟨_,KatTups.cons ho hc hd rfl a1,by simp[a2],fun v hv=> ?_⟩
   rcases D8.mp hv with z|z
   ·exact⟨_,_,z⟩
   ·exact a3 v z
 refine kat_kind (T:=.type "int") hf (by omega) (fun v hv=> ?_) (by decide) h;obtain⟨i,t,rfl⟩:=hi v hv;exact .now
theorem qN:∀{vs:List Value},vs.length<2->(vs.toArray.zip vs.toArray).map (·.2)=vs.toArray
 | [],_=>by simp
 | [_],_=>by simp
 | _::_::_,h=>absurd h (by simp)
theorem nl:∀{vs:List Value},vs.length<2->(List.range vs.length).map (fun i=>vs.getD i Value.none)=vs
 | [],_=>rfl
 | [_],_=>rfl
 | _::_::_,h=>absurd h (by simp)
theorem sv{f:Nat->Int}:∀{n:Nat},n<2->((List.range n).map f).Pairwise (·<=·)
 | 0,_=>.nil
 | 1,_=>by show([f 0]:List Int).Pairwise (·<=·);exact List.pairwise_singleton _ _
 | _+2,h=>absurd h (by omega)
theorem mP{a:Addr}{vs:List Value}{n:Nat}{P:PySem.Fin->Shared->Prop}(ho:s.heap.get? a=some (seqObj "list" vs.toArray n))(h2:vs.length<2)
  (h:P (.done (.ret .none)) {s with heap:=sortedHeap s.heap a vs vs.toArray}):wpAny (model prog w) A (Builtin.«list.sort» ⟨[.ref a],[]⟩) P E s:=by
 rw[list_sort_plain];refine D6 (listItems_at ho rfl (D6 (listUpdate_at ho rfl ?_ (by rw[D9,Ej];omega) (EY _))));obtain⟨e1,g1⟩:∃e1,(s.heap.update a (Obj.mapSeq fun _=>(#[]:Array Value))).get? a=some (seqObj "list" #[] e1):=⟨_,get?_update_seq ho fun _=> #[]⟩;refine D6 (seqEpoch_at g1 rfl (D6 (wpAny_newTuple ?_ (by show vs.length<=_;rw[Ej];omega))));refine D6 (wpAny_newList ?_ (EY _));refine wpAny_holding ?_;have g2:(((s.heap.update a (Obj.mapSeq fun _=>(#[]:Array Value))).push (seqObj "tuple" vs.toArray 0)).push (seqObj "list" #[] 0)).get? a=some (seqObj "list" #[] e1):=Dr _ (Dr _ g1);show wpAny (model prog w) A _ P E {s with heap:=((s.heap.update a (Obj.mapSeq fun _=>(#[]:Array Value))).push (seqObj "tuple" vs.toArray 0)).push (seqObj "list" #[] 0)};dsimp only;have n2:vs.toArray.size<2:=by rw[D9];exact h2
 rw[D3 n2,D3 n2];refine D6 (ES ?_);rw[StateT.run_pure];refine D6 (ES ?_);dsimp only;have hout:(arrOf (SortSt.mk' general' (vs.toArray.zip vs.toArray) #[] 7 none)).map (·.2)=vs.toArray:=by
  exact qN h2
 rw[hout];refine D6 (seqEpoch_at g2 rfl ?_);refine D6 (listUpdate_at g2 rfl ?_ (EY _) (by rw[D9,Ej];omega));simp only[bne_self_eq_false,Bool.false_eq_true,if_false];exact ES h
theorem fm{F:Value->Int×Int->Prop}:∀{vs:List Value}{ps:List (Int×Int)},Paired F vs ps->∀i,i<vs.length->F (vs.getD i Value.none) (ps.getD i (0,0))/\ps.getD i (0,0)∈ps
 | _,_,.cons r _,0,_=>⟨r,Ds⟩
 | _,_,.cons _ t,i+1,h=>by
  have:=fm t i (by simpa using h);exact⟨this.1,Dq _ this.2⟩
theorem kE{l:Addr}{vs:List Value}{ps:List (Int×Int)}{Q:Value->Shared->Prop}(hl:s.heap.IsList l vs.toArray)(hp:Paired (cZ s.heap) vs ps)(hb:∀q∈ps,0<=q.2/\q.2<1000)(h64:vs.length<64)
  (h:∀js:List Nat,js.Perm (List.range vs.length)->(js.map fun i=>ck (ps.getD i (0,0))).Pairwise (·<=·)->Q (.ref (s.heap.objs.size+1)) {s with heap:=sortedAll s.heap vs (js.map fun i=>vs.getD i Value.none).toArray}) :
  wpAny (model prog w) A (call (.builtin "sorted") [.ref l]) Q E s:=by
 refine Calls.call_function_entry kind_sorted plain_sorted entry_sorted (args_sorted1 _) ?_;unfold Builtin.«sorted»;refine D6 (m:=checkCount "sorted" 1 1 _) (ES ?_);refine D6 (collect_list hl ?_ (by rw[Ej];omega));refine D6 (wpAny_newList ?_ (by rw[Ej];omega));have hsz:((s.heap.push (seqObj "list" #[] 0)).update s.heap.objs.size (Obj.mapSeq (·++vs.toArray))).objs.size=s.heap.objs.size+1:=by rw[Heap.size_update,size_push']
 have hoL:(((s.heap.push (seqObj "list" #[] 0)).update s.heap.objs.size (Obj.mapSeq (·++vs.toArray))).push (seqObj "list" vs.toArray 0)).get? (s.heap.objs.size+1)=some (seqObj "list" vs.toArray 0):=by
  rw[<- hsz];exact EB _ rfl
 have keep:∀b o,s.heap.get? b=some o->(((s.heap.push (seqObj "list" #[] 0)).update s.heap.objs.size (Obj.mapSeq (·++vs.toArray))).push (seqObj "list" vs.toArray 0)).get? b=some o:=fun b o e=>by
  have lt:b<s.heap.objs.size:=EA e;refine Dr _ ?_;rw[Heap.get?_update_other _ _ (Fi lt)];exact Dr _ e
 show wpAny _ _ _ _ _ {s with heap:=((s.heap.push (seqObj "list" #[] 0)).update s.heap.objs.size (Obj.mapSeq (·++vs.toArray))).push (seqObj "list" vs.toArray 0)};rw[hsz]
 by_cases h2:vs.length<2
 ·refine D6 (wpAny_holding (F1 slot_list_sort ⟨_,hoL,rfl⟩ entry_list_sort (mP hoL h2 ⟨_,rfl,?_⟩) (args_list_sort _)))
  have q:=h (List.range vs.length) (List.Perm.refl _) (sv h2);rw[nl h2]at q;exact ES ⟨_,rfl,q⟩
 ·have hp2:∀s1:Shared,(∀b o,b≠s.heap.objs.size+1->(((s.heap.push (seqObj "list" #[] 0)).update s.heap.objs.size (Obj.mapSeq (·++vs.toArray))).push (seqObj "list" vs.toArray 0)).get? b=some o->s1.heap.get? b=some o)->∀{v:Value}{q:Int×Int},cZ s.heap v q->cZ s1.heap v q:=fun s1 k v q x =>
   x.keep fun b o e=>k b o (EI (Ew (EA e))) (keep b o e)
  refine D6 (wpAny_holding (F1 slot_list_sort ⟨_,hoL,rfl⟩ entry_list_sort (xH (κ:=tuples' true) (key:=fun i=>ck (ps.getD i (0,0))) hoL (by omega) h64 (fun s1 Q1 k q1=> ?_) (fun s1 i j C k hi hj c=> ?_) ⟨_,rfl,?_⟩) (args_list_sort _)))
  ·exact oH (ps:=ps) (by omega) (L2.Paired.mapP hp fun _ _ x=>hp2 s1 k x) q1
  ·obtain⟨x1,m1⟩:=fm hp i hi
   obtain⟨x2,m2⟩:=fm hp j hj;exact xF (hp2 s1 k x1) (hp2 s1 k x2) (hb _ m1) (hb _ m2) c
  ·obtain⟨z1,z2⟩:=sort (key:=fun i=>ck (ps.getD i (0,0))) (n:=vs.length) (by omega)
   exact ES ⟨_,rfl,h _ z1 z2⟩
end
end SW
namespace L2
open PySem PySem.Spec PyProof.Rows
inductive Bb(K:W.Frag)(H:Hp):List V->List (Int×Int)->Prop
 | nil:Bb K H [] []
 | cons {a:Addr} {q:Int×Int} {us:List V} {ps:List (Int×Int)} (h:cJ K H a [.int q.1,.int q.2]) (t:Bb K H us ps):Bb K H (.ref a::us) (q::ps)
theorem Bb.len{K:W.Frag}{H:Hp}{us:List V}{ps:List (Int×Int)}(h:Bb K H us ps):us.length=ps.length:=by
 induction h with
 | nil=>rfl
 | cons _ _ ih=>simp[ih]
theorem aQ.pick{us:List V}{vs:List Value}(r:aQ us vs):∀{js:List Nat},(∀j∈js,j<us.length)->aQ (js.map fun i=>us.getD i .non) (js.map fun i=>vs.getD i Value.none)
 | [],_=>.nil
 | j::js,h=>by
  have hj:=h j Ds;obtain⟨v,hv,rv⟩:=r.get (i:=j) (x:=us[j]) (Dw hj);refine .cons ?_ (aQ.pick r fun i hi=>h i (Dq _ hi));dsimp only;rw[Dt,Dw hj,Dt,hv];exact rv
section
variable{X:Cx}
theorem fV:bI X (.builtin "sorted") (fun xs H Q=>∃(p:Addr)(us:List V)(ps:List (Int×Int)),xs=[.ref p]/\bJ X.K H p us/\Bb X.K H us ps/\us.length<64/\(∀q∈ps,0<=q.2/\q.2<1000) /\
  ∀a (js:List Nat),H a=none->js.Perm (List.range us.length)->(js.map fun i=>SW.ck (ps.getD i (0,0))).Pairwise (·<=·)->Q (.ref a) (upd H a (.lst (js.map fun i=>us.getD i .non)))):=by
 intro pins s σ H xs us Q I r h;obtain⟨p,ws,ps,rfl,hq,hp,h64,hb,q⟩:=h;obtain⟨u,rfl,rx⟩:=vals1 r;cases rx;obtain⟨its,r',pl,hz⟩:=I.list hq;have hlen:=r'.length;have pr:Paired (SW.cZ s.heap) its ps:=by
  clear q hb h64 hq pl hz hlen
  induction hp generalizing its with
  | nil =>
   cases r';exact .nil
  | cons ht _ ih =>
   cases r' with
   | cons rv t =>
    refine .cons ?_ (ih _ t);cases rv;obtain⟨ys,ry,tp,_⟩:=I.tuple ht;obtain⟨y1,y2,rfl,e1,e2⟩:=vals2 ry;obtain⟨t1,rfl⟩:=e1;obtain⟨t2,rfl⟩:=e2;exact⟨_,t1,t2,rfl,tp⟩
 refine SW.kE pl.isList pr hb (by omega) fun js pm pw=> ?_;obtain⟨c,hc⟩:=sortedAll_at s.heap its (js.map fun i=>its.getD i Value.none).toArray;rw[<- hlen]at pm;refine⟨.ref (s.heap.objs.size+1),_,I.laid (t' :=s.toks) (o:=.lst (js.map fun i=>ws.getD i .non)) (fun b o z=>sortedAll_old z) (Nat.le_succ _) ?_,rfl,q _ js (I.hok.fresh (Nat.le_succ _)) pm pw⟩;refine⟨?_,js.map fun i=>its.getD i Value.none,c,aQ.pick r' fun j hj=>Eb.mp (pm.mem_iff.mp hj),by simpa [seqObj]using hc⟩;rw[Dp,pm.length_eq,EZ,Ej];omega
end
end L2
namespace SR
open PySem PyProof.Rows
section
variable{prog:Program}{w:World}{A:Around}{E:Value->Shared->Prop}{s:Shared}
end
end SR
set_option maxHeartbeats 800000
namespace SR
open PySem PyProof.Rows
noncomputable def vQ(I t:Addr)(i:Int)(h:Heap):Prop:=∃o,h.get? I=some o/\o.cls=.type "reversed"/\o.data=.fields #[.ref t,rawInt i]
theorem vQ.typeIs{I t:Addr}{i:Int}{s:Shared}(x:vQ I t i s.heap):s.TypeIs (.ref I) "reversed":=let⟨o,ho,hc,_⟩:=x;⟨o,ho,hc⟩
theorem vQ.keep{I t:Addr}{i:Int}{h h' :Heap}(x:vQ I t i h)(k:∀o,h.get? I=some o->h'.get? I=some o):vQ I t i h' :=let⟨o,ho,r⟩:=x;⟨o,k o ho,r⟩
section
variable{prog:Program}{w:World}{A:Around}{E:Value->Shared->Prop}{s:Shared}
end
end SR
namespace L2
open PySem PySem.Spec PyProof.Rows
section
variable{X:Cx}
end
end L2
set_option maxHeartbeats 4000000
namespace L2
open PySem PySem.Spec PyProof.Rows
section
variable{X:Cx}
end
end L2
namespace L2
open PySem PySem.Spec PyProof.Rows PySem.W
section
variable{X:Cx}
theorem xM{kvs:List (ac×V)}{vs:List (ac×Value)}(r:KV kvs vs):aQ (kvs.map (·.2)) (vs.map (·.2)):=by
 induction r with
 | nil=>exact .nil
 | cons a t ih=>exact .cons a.2 ih
theorem ij(hc:X.calm=true):bI X (.type "list") (fun xs H Q=>∃(p a:Addr)(kvs:List (ac×V)),xs=[.ref p]/\H p=some (iu p a)/\H a=some (.dK kvs)/\kvs.length<=sizeLine/\∀b,H b=none->Q (.ref b) (upd H b (.lst (kvs.map (·.2))))):=by
 intro pins s σ H xs us Q I r h;obtain⟨p,a,kvs,rfl,hp,ha,hz,q⟩:=h;obtain⟨u,rfl,rx⟩:=vals1 r;cases rx;obtain⟨z,hd,vs,rel,dd⟩:=jk I.hok ha;obtain⟨ep,da⟩:=dd.dictAt;obtain⟨hv,_⟩:=(show ar X.prog X.w H s.heap p (iu p a)from I.hok p _ hp);have hl:kvs.length=vs.length:=rel.length;refine kdl_call (kdl_values (r:=p) (d:=a) (kvs:=vs) (ep:=ep)) (I.ok.hd hc) ⟨hv,da⟩ (by omega) fun h' tk acc' c' hk hD hacc=> ?_;have e:acc'.toList=vs.map (·.2):=by
  refine F7 fun i=> ?_;rw[D7]
  by_cases hi:i<acc'.size
  ·obtain⟨k,e⟩:=hacc.2 i acc'[i] (by simp[hi])
   rw[e,Fp,Array.getElem?_eq_getElem hi];rfl
  ·have:=hacc.1
   rw[Ef (by rw[EQ];omega),Ef (by omega)];rfl
 refine⟨.ref s.heap.objs.size,_,I.laid (a:=s.heap.objs.size) (o:=.lst (kvs.map (·.2))) (t' :=tk) (fun b o z=>hk b o z) (Dx _) ⟨by rw[Dp];exact hz,vs.map (·.2),c',xM rel,?_⟩,rfl,q _ (I.hok.fresh (Dx _))⟩;rw[<- e,hD]
end
end L2
set_option genInjectivity false
namespace IR
open PySem
noncomputable abbrev ac:=L2.ac
inductive PV where
 | non|bl (b:Bool)|int (i:Int)|str (z:Str)|lst (xs:List PV)|tup (xs:List PV)|dK (ks:List ac) (vs:List PV)|dT (ks:List (List ac)) (vs:List PV)
instance:Inhabited PV:=⟨.non⟩
mutual
noncomputable def imm:PV->Bool
 | .non=>true| .bl _=>true| .int _=>true| .str _=>true
 | .lst _=>false
 | .tup xs=>imms xs
 | .dK _ _=>false| .dT _ _=>false
noncomputable def imms:List PV->Bool
 | []=>true
 | x::xs=>imm x&&imms xs
end
inductive Bf where
 | len|int|str|list|tuple|sorted|min|max|sum|abs|all|any|lrange|lrange2|isin (t:String)|sumv|sset|lset|trev|lvals
inductive Bm where
 | join|split|count|index|get|jrev
mutual
inductive IE where
 | con (v:PV)|var (i:Nat)|bin (op:Operator) (a b:IE)|neg (a:IE)|cmp (op:CmpOp) (a b:IE)
 | and (a b:IE)|or (a b:IE)|not (a:IE)|ite (c:IC) (a b:IE)
 | call (f:Nat) (es:vg)|bf (f:Bf) (es:vg)|mth (m:Bm) (o:IE) (es:vg)
 | lst (es:vg)|tup (es:vg)|dnew|dlit (k:ac) (e:IE)|ix (a i:IE)|sl (a:IE) (lo hi:IO)|rev (a:IE)
 | lc (elt:IE) (src:IT) (ifs:Bk) (caps:List Nat)|lc2 (elt:IE) (src:IT) (ifs:Bk) (caps:List Nat)|lcs (a:IE)|never
inductive vg where
 | nil|cons (e:IE) (es:vg)
inductive IO where
 | no|yes (e:IE)
inductive IC where
 | val (e:IE)|not (c:IC)|and (c d:IC)|or (c d:IC)
inductive Bk where
 | no|yes (c:IC)
inductive IT where
 | seq (e:IE)|rng (es:vg)|enum (a:IE)|never
end
mutual
inductive IS where
 | asg (i:Nat) (o:Bool) (cap:List Nat) (e:IE)|ret (cap:List Nat) (e:IE)|retN|ife (c:IC) (a b:rS)
 | forr (is:List Nat) (one:Bool) (cap:List Nat) (src:IT) (body:rS)|whil (c:IC) (body:rS)|pass|brk|cont
 | app (i:Nat) (cap:List Nat) (e:IE)|drop (e:IE)|aug (i:Nat) (op:Operator) (e:IE)|hand (m:Nat) (g:List PV->Option PV)|never
inductive rS where
 | nil|cons (s:IS) (ss:rS)
end
inductive Bd where
 | lst|dK (ks:List ac)|dT (ks:List (List ac))
noncomputable def Bd.pv:Bd->List PV->PV
 | .lst,xs=>.lst xs
 | .dK ks,xs=>.dK ks xs
 | .dT ks,xs=>.dT ks xs
section
variable{κ α:Type}[DecidableEq κ]
noncomputable def ge:List κ->List α->κ->Option α
 | k' ::ks,x::xs,k=>if k' =k then some x else ge ks xs k
 | _,_,_=>none
noncomputable def Ce:List κ->List α->κ->α->List α
 | k' ::ks,x::xs,k,y=>(if k' =k then y else x)::Ce ks xs k y
 | _,xs,_,_=>xs
noncomputable def putL(ks:List κ)(xs:List α)(k:κ)(y:α):List α:=if k∈ks then Ce ks xs k y else xs++[y]
noncomputable def Ck(ks:List κ)(k:κ):List κ:=if k∈ks then ks else ks++[k]
end
noncomputable def iP:PV->Option ac
 | .int i=>some (.inl i)
 | .str z=>some (.inr z)
 | _=>none
noncomputable def uU:List PV->Option (List ac)
 | []=>some []
 | x::xs=>(iP x).bind fun k=>(uU xs).map (k::·)
inductive TV where
 | un|frz (v:PV) (n:Bool)|own (xs:List PV) (n:Bool)|owd (b:Bd) (xs:List PV) (n:Bool)
noncomputable def TV.ob:TV->Option (Bd×List PV×Bool)
 | .own xs n=>some (.lst,xs,n)
 | .owd b xs n=>some (b,xs,n)
 | _=>none
noncomputable abbrev En:=List TV
noncomputable def TV.valD:TV->PV
 | .frz v _=>v
 | _=>.non
inductive RV where
 | frz (v:PV) (n:Bool)|bor (v:PV)|own (xs:List PV) (n:Bool)|owd (b:Bd) (xs:List PV) (n:Bool)
noncomputable def RV.val:RV->PV
 | .frz v _=>v
 | .bor v=>v
 | .own xs _=>.lst xs
 | .owd b xs _=>b.pv xs
noncomputable abbrev sc(v:PV):RV:=.frz v true
noncomputable def RV.keep:RV->Option (PV×Bool)
 | .frz v n=>some (v,n)
 | .bor v=>if imm v then some (v,true)else none
 | .own xs n=>some (.lst xs,n)
 | .owd b xs n=>some (b.pv xs,n)
noncomputable def iK(v:PV):RV:=if imm v then .frz v true else .bor v
noncomputable def RV.its:RV->Option (List PV×Bool)
 | .frz (.lst xs) n=>some (xs,n)
 | .frz (.tup xs) n=>some (xs,n)
 | .own xs n=>some (xs,n)
 | .bor (.lst xs)=>if imms xs then some (xs,true)else none
 | .bor (.tup xs)=>if imms xs then some (xs,true)else none
 | _=>none
noncomputable abbrev LN:Nat:=16777216
open L2 (xQ cf)
noncomputable def signs(z:Str):List PV:=z.cps.toList.map fun c=>.str ⟨#[c]⟩
noncomputable def qf(xs:List PV)(n:Bool):Option RV:=if xs.length<=LN then some (.own xs n)else none
noncomputable def qe(xs:List PV)(n:Bool):Option RV:=if xs.length<=LN then some (.frz (.tup xs) n)else none
noncomputable def oo(a b:RV):Option RV :=
 match a.val,b.val with
 | .int i,.int j=>some (sc (.int (i+j)))
 | .str x,.str y=>if x.length+y.length<=LN then some (sc (.str (x++y)))else none
 | _,_=>none
noncomputable def ol(a b:RV):Option RV :=
 match a.val,b.val with
 | .int i,.int j=>some (sc (.int (i-j)))
 | _,_=>none
noncomputable def kw(a b:RV):Option RV :=
 match a.val,b.val with
 | .int i,.int j=>if(-(2^64)<i/\i<2^64)\/(-(2^64)<j/\j<2^64)then some (sc (.int (i*j)))else if i.natAbs<2^2000/\j.natAbs<2^2000 then some (sc (.int (i*j)))else none
 | _,_=>none
noncomputable def dg(a b:RV):Option RV :=
 match a.val,b.val with
 | .int i,.int j=>if 0<j/\j<2^200 then some (sc (.int (i/j)))else none
 | _,_=>none
noncomputable def om(a b:RV):Option RV :=
 match a.val,b.val with
 | .int i,.int j=>if 0<j then some (sc (.int (i%j)))else none
 | _,_=>none
noncomputable def gC(a b:RV):Option RV :=
 match a.val,b.val with
 | .int i,.int j=>if 0<=j/\j<=1000000/\i.natAbs<2^64 then some (sc (.int (i*2^j.toNat)))else none
 | _,_=>none
noncomputable def eF(op:Operator)(a b:RV):Option RV:=match op with
 | .Add=>oo a b
 | .Sub=>ol a b
 | .Mult=>kw a b
 | .FloorDiv=>dg a b
 | .Mod=>om a b
 | .LShift=>gC a b
 | _=>none
noncomputable def mj:PV->Bool
 | .non=>true| .bl _=>true| .int _=>true| .str _=>true|_=>false
noncomputable def eqs:PV->PV->Option Bool
 | .int i,.int j=>some (decide (i=j))
 | .str i,.str j=>some (decide (i=j))
 | .bl i,.bl j=>some (decide (i=j))
 | .non,.non=>some true
 | .non,.int _=>some false| .non,.bl _=>some false| .non,.str _=>some false| .int _,.non=>some false| .bl _,.non=>some false| .str _,.non=>some false
 | .int _,.str _=>some false| .str _,.int _=>some false| .bl _,.str _=>some false| .str _,.bl _=>some false
 | _,_=>none
noncomputable def xZ:PV->PV->Bool
 | .int i,.int j=>decide (i=j)
 | .str i,.str j=>decide (i=j)
 | .bl i,.bl j=>decide (i=j)
 | .bl b,.int j=>decide ((if b then 1 else 0:Int)=j)
 | .int j,.bl b=>decide (j=(if b then 1 else 0:Int))
 | .non,.non=>true
 | _,_=>false
mutual
noncomputable def jB:PV->PyData
 | .non=>.none
 | .bl b=>.bool b
 | .int i=>.int i
 | .str z=>.str z
 | .lst xs=>.list (cx xs)
 | .tup xs=>.tuple (cx xs)
 | .dK _ _=>.dict []
 | .dT _ _=>.dict []
noncomputable def cx:List PV->List PyData
 | []=>[]
 | x::xs=>jB x::cx xs
end
mutual
noncomputable def lE:PV->PV->Bool
 | .lst xs,.lst ys=>oO xs ys
 | .tup xs,.tup ys=>oO xs ys
 | a,b=>xZ a b
noncomputable def oO:List PV->List PV->Bool
 | [],[]=>true
 | x::xs,y::ys=>lE x y&&oO xs ys
 | [],_::_=>false
 | _::_,[]=>false
end
noncomputable def eV:Nat->PV->Bool
 | _,.non=>true
 | _,.bl _=>true
 | _,.int _=>true
 | _,.str z=>PyData.strOk z
 | 0,.lst _=>false
 | 0,.tup _=>false
 | n+1,.lst xs=>xs.all (eV n)
 | n+1,.tup xs=>xs.all (eV n)
 | _,.dK _ _=>false
 | _,.dT _ _=>false
noncomputable def ym(x y:PV):Option Bool:=match eqs x y with
 | some b=>some b
 | none=>if eV 12 x&&eV 12 y then some (lE x y)else none
noncomputable def Br(x:PV)(ys:List PV):Option Bool :=
 if mj x/\ys.all mj then some (ys.any fun y=>xZ y x)else if eV 12 x&&ys.all (eV 12)then some (ys.any fun y=>lE y x)else none
mutual
noncomputable def Cw:PV->PV->Option Bool
 | .int i,.int j=>some (decide (i<j))
 | .tup xs,.tup ys=>xE xs ys
 | _,_=>none
noncomputable def xE:List PV->List PV->Option Bool
 | [],ys=>some !ys.isEmpty
 | _::_,[]=>some false
 | x::xs,y::ys=>if lE x y then xE xs ys else Cw x y
end
noncomputable def ltT(x y:PV):Option Bool:=if eV 12 x&&eV 12 y then Cw x y else none
noncomputable def uz(a b:PV):Option Bool :=
 match a,b with
 | .int i,.int j=>some (decide (i<j))
 | .tup xs,.tup ys=>ltT (.tup xs) (.tup ys)
 | _,_=>none
noncomputable def oV(a b:PV):Option Bool :=
 match a,b with
 | .int i,.int j=>some (decide (i<=j))
 | _,_=>none
noncomputable def vB(a b:PV):Option Bool :=
 match a,b with
 | .int i,.int j=>some (decide (j<i))
 | _,_=>none
noncomputable def oW(a b:PV):Option Bool :=
 match a,b with
 | .int i,.int j=>some (decide (j<=i))
 | _,_=>none
noncomputable def vA(a b:PV):Option Bool :=
 match a,b with
 | .non,.non=>some true
 | x,.non=>some false
 | _,_=>none
noncomputable def ig(a b:PV):Option Bool :=
 match a,b with
 | x,.lst ys=>(Br x ys).map (!·)
 | _,_=>none
noncomputable def cS(op:CmpOp)(a b:PV):Option Bool:=match op with
 | .Lt=>uz a b
 | .LtE=>oV a b
 | .Gt=>vB a b
 | .GtE=>oW a b
 | .Eq=>ym a b
 | .NotEq=>(ym a b).map (!·)
 | .Is=>vA a b
 | .NotIn=>ig a b
 | _=>none
noncomputable def lf:PV->Option Bool
 | .non=>some false
 | .bl b=>some b
 | .int i=>some (i !=0)
 | .str z=>if z.length<=LN then some ((z.length:Int) !=0)else none
 | .lst xs=>some !xs.isEmpty
 | .tup xs=>some !xs.isEmpty
 | .dK ks _=>some !ks.isEmpty
 | .dT _ _=>none
noncomputable def fI:PV->Option Nat
 | .str z=>if z.length<=LN then some z.length else none
 | .lst xs=>some xs.length
 | .tup xs=>some xs.length
 | .dK ks _=>some ks.length
 | _=>none
noncomputable def isa(t:String):PV->Option Bool
 | .non=>if t="int"\/t="str"\/t="list"\/t="tuple"\/t="bool" then some false else none
 | .bl _=>if t="int"\/t="bool" then some true else if t="str"\/t="list"\/t="tuple" then some false else none
 | .int _=>if t="int" then some true else if t="bool"\/t="str"\/t="list"\/t="tuple" then some false else none
 | .str _=>if t="str" then some true else if t="bool"\/t="int"\/t="list"\/t="tuple" then some false else none
 | .lst _=>if t="list" then some true else if t="bool"\/t="int"\/t="str"\/t="tuple" then some false else none
 | .tup _=>if t="tuple" then some true else if t="bool"\/t="int"\/t="str"\/t="list" then some false else none
 | .dK _ _=>if t="bool"\/t="int"\/t="str"\/t="list"\/t="tuple" then some false else none
 | .dT _ _=>none
noncomputable def jo:List PV->Option (List Bool)
 | []=>some []
 | .bl b::r=>(jo r).map (b::·)
 | _::_=>none
noncomputable def dQ:List PV->Option (List Str)
 | []=>some []
 | .str z::r=>(dQ r).map (z::·)
 | _::_=>none
noncomputable def aP:List PV->Option (List Int)
 | []=>some []
 | .int i::r=>(aP r).map (i::·)
 | _::_=>none
noncomputable def kd(sep:Str):List Str->Str
 | []=>⟨#[]⟩
 | [x]=>x
 | x::y::r=>x++sep++kd sep (y::r)
noncomputable def lrng(n:Nat):List PV:=(List.range n).map fun i=>.int (i:Nat)
noncomputable def tQ:PV->Option (Int×Int)
 | .tup xs=>(aP xs).bind fun ns=>match ns with
  | [a,b]=>some (a,b)
  | _=>none
 | _=>none
noncomputable def fC:List PV->Option (List (Int×Int))
 | []=>some []
 | x::r=>(tQ x).bind fun q=>(fC r).map (q::·)
noncomputable def bg(q:Int×Int):PV:=.tup [.int q.1,.int q.2]
noncomputable def dM(ps:List (Int×Int)):List (Int×Int):=ps.mergeSort fun a b=>decide (SW.ck a<=SW.ck b)
noncomputable def li(xs:List PV):Option RV:=(fC xs).bind fun ps=>if ps.length<64/\ps.all (fun q=>decide (0<=q.2)&&decide (q.2<1000))=true then some (.own ((dM ps).map bg) true)else none
noncomputable def d9(xs:List PV):Option RV:=match aP xs with
 | some ns=>if ns.length<64 then some (.own ((L2.sortI ns).map PV.int) true)else none
 | none=>li xs
noncomputable def sn:PV->Option (List Int)
 | .lst xs=>(aP xs).bind fun ns=>if ns.all (fun n=>decide (0<=n)&&decide (n<8))=true then some ns else none
 | _=>none
noncomputable def revT(a:RV):Option RV:=match a.val with
 | .tup _=>(match a.its with
  | some (xs,n)=>if xs.isEmpty then none else some (.frz (.tup xs.reverse) n)
  | none=>none)
 | _=>none
noncomputable def strI:PV->Option RV
 | .int i=>if i.natAbs.log2<1920 then some (sc (.str (Str.ofString (toString i))))else none
 | _=>none
noncomputable def An(x:PV)(xs:List PV):Option RV:=if xs.all (eV 12)&&eV 12 x then(xs.findIdx? fun y=>lE y x).map fun j=>sc (.int (j:Nat))else none
noncomputable def yi:PV->Option RV
 | .dK ks vs=>if ks.length<=LN then(aP vs).map fun ns=>.own (ns.map PV.int) true else none
 | _=>none
noncomputable def lF(f:Bf)(as:List RV):Option RV :=
 match f,as with
 | .len,[a]=>(fI a.val).map fun n=>sc (.int (n:Nat))
 | .int,[a]=>match a.val with
  | .int i=>some (sc (.int i))
  | .bl b=>some (sc (.int (if b then 1 else 0)))
  | _=>none
 | .list,[a]=>match a.its with
  | some (xs,n)=>some (.own xs n)
  | none=>none
 | .tuple,[a]=>match a.its with
  | some (xs,n)=>some (.frz (.tup xs) n)
  | none=>none
 | .all,[a]=>match a.val with
  | .lst xs=>(jo xs).map fun bs=>sc (.bl (bs.all id))
  | _=>none
 | .sum,[a]=>match a.val with
  | .lst xs=>(aP xs).map fun ns=>sc (.int ns.sum)
  | _=>none
 | .sorted,[a]=>match a.val with
  | .lst xs=>d9 xs
  | _=>none
 | .sumv,[a]=>match a.val with
  | .dK _ vs=>(aP vs).map fun ns=>sc (.int ns.sum)
  | _=>none
 | .sset,[a]=>(sn a.val).map fun ns=>.own ((L2.yg ns).map PV.int) true
 | .lset,[a]=>(sn a.val).map fun ns=>sc (.int ((L2.yg ns).length:Nat))
 | .trev,[a]=>revT a
 | .lvals,[a]=>yi a.val
 | .str,[a]=>strI a.val
 | .isin t,[a]=>(isa t a.val).map fun b=>sc (.bl b)
 | .min,[a,b]=>match a.val,b.val with
  | .int i,.int j=>some (sc (.int (if j<i then j else i)))
  | _,_=>none
 | .max,[a,b]=>match a.val,b.val with
  | .int i,.int j=>some (sc (.int (if j>i then j else i)))
  | _,_=>none
 | .lrange,[a]=>match a.val with
  | .int i=>if 0<=i/\i<=1000 then some (.own (lrng i.toNat) true)else none
  | _=>none
 | .lrange2,[a,b]=>match a.val,b.val with
  | .int i,.int j=>if -1000<=i/\j<=1000/\i<=j then some (.own ((List.range (j-i).toNat).map fun k=>.int (i+(k:Nat))) true)else none
  | _,_=>none
 | _,_=>none
noncomputable def qg(m:Bm)(o:RV)(as:List RV):Option RV :=
 match m,o.val,as with
 | .join,.str sep,[a]=>match a.val with
  | .lst xs=>(dQ xs).bind fun ys=>if(ys.map (·.length)).sum+ys.length*sep.length<=LN then some (sc (.str (kd sep ys)))else none
  | .tup xs=>(dQ xs).bind fun ys=>if(ys.map (·.length)).sum+ys.length*sep.length<=LN then some (sc (.str (kd sep ys)))else none
  | _=>none
 | .jrev,.str sep,[a]=>match a.val with
  | .str z=>if sep.cps= #[]/\0<z.length/\z.length<=LN then some (sc (.str ⟨z.cps.toList.reverse.toArray⟩))else none
  | _=>none
 | .count,.str z,[a]=>match a.val with
  | .str y=>some (sc (.int (Txt.count z y)))
  | _=>none
 | .index,.tup xs,[a]=>An a.val xs
 | .get,.dK ks vs,[a,d]=>(iP a.val).bind fun k=>match ge ks vs k with
  | some e=>(match o with
   | .frz _ n=>some (.frz e (n||imm e))
   | .bor _=>some (iK e)
   | _=>none)
  | none=>some d
 | _,_,_=>none
noncomputable def index(a i:RV):Option RV :=
 match a,i.val with
 | .frz (.lst xs) n,.int k=>(cf xs k).map fun e=>.frz e (n||imm e)
 | .frz (.tup xs) n,.int k=>(cf xs k).map fun e=>.frz e (n||imm e)
 | .own xs n,.int k=>(cf xs k).map fun e=>.frz e (n||imm e)
 | .bor (.lst xs),.int k=>(cf xs k).map iK
 | .bor (.tup xs),.int k=>(cf xs k).map iK
 | .frz (.str z) _,.int k=>if z.length<=LN then(cf z.cps.toList k).map fun c=>sc (.str ⟨#[c]⟩)else none
 | .frz (.dK ks vs) n,y=>(iP y).bind fun k=>(ge ks vs k).map fun e=>.frz e (n||imm e)
 | _,_=>none
noncomputable def cut{α:Type}(xs:List α)(lo hi:Option Int):List α:=(xs.drop (HT.lD xs.length 0 lo)).take (HT.lD xs.length xs.length hi-HT.lD xs.length 0 lo)
noncomputable def slice(a:RV)(lo hi:Option Int):Option RV :=
 match a.val with
 | .lst _=>match a.its with
  | some (xs,n)=>some (.own (cut xs lo hi) (n||imms xs))
  | none=>none
 | _=>none
noncomputable def tD(a:RV):Option RV :=
 match a.val with
 | .str z=>if z.length<=LN then some (sc (.str ⟨z.cps.toList.reverse.toArray⟩))else none
 | .lst _=>match a.its with
  | some (xs,n)=>some (.own xs.reverse n)
  | none=>none
 | _=>none
noncomputable def keeps:List RV->Option (List PV×Bool)
 | []=>some ([],true)
 | r::rs=>r.keep.bind fun(v,n)=>(keeps rs).map fun(vs,m)=>(v::vs,n&&m)
noncomputable def mW(τ:En)(i:Nat):Option RV :=
 match τ[i]? with
 | some (.frz v n)=>some (.frz v n)
 | some (.own xs _)=>some (.bor (.lst xs))
 | some (.owd b xs _)=>some (.bor (b.pv xs))
 | _=>none
noncomputable def oK:Option RV->Option (Option Int)
 | none=>some none
 | some r=>match r.val with
  | .int i=>some (some i)
  | _=>none
noncomputable def bD(f:PV->Option (Option (PV×Bool))):List PV->Option (List PV×Bool)
 | []=>some ([],true)
 | x::xs=>(f x).bind fun r=>(bD f xs).map fun(vs,m)=>match r with
  | none=>(vs,m)
  | some (v,n)=>(v::vs,n&&m)
noncomputable def iE:PV->Option (PV×PV)
 | .tup [a,b]=>some (a,b)
 | _=>none
noncomputable def hJ:List RV->Option (List PV)
 | [a]=>match a.val with
  | .int j=>if -(2^62)<=j/\j<2^62 then some ((List.range j.toNat).map fun i=>.int (0+(i:Nat)))else none
  | _=>none
 | [a,b]=>match a.val,b.val with
  | .int i,.int j=>if -(2^62)<=i/\i<2^62/\ -(2^62)<=j/\j<2^62 then some ((List.range (j-i).toNat).map fun k=>.int (i+(k:Nat)))else none
  | _,_=>none
 | [a,b,c]=>match a.val,b.val,c.val with
  | .int i,.int j,.int k=>if k≠0/\k.natAbs<1073741824/\Builtin.Range.small i j k=true then some ((List.range (Builtin.Range.rangeSize i j k).toNat).map fun m=>.int (i+(m:Nat)*k))else none
  | _,_,_=>none
 | _=>none
noncomputable def Al:PV->Option Int
 | .int i=>some i
 | _=>none
noncomputable def ik:PV->Option Bool
 | .bl b=>some b
 | _=>none
noncomputable def g9(x:RV):Option (List PV×Bool×Bool):=match x with
  | .frz (.str z) _=>some (signs z,true,false)
  | .bor (.lst xs)=>if imms xs then some (xs,true,true)else none
  | .bor (.tup xs)=>if imms xs then some (xs,true,true)else none
  | .bor _=>none
  | r=>r.its.map fun(xs,n)=>(xs,n,false)
noncomputable def gi(i:Nat)(x:PV):PV:=.tup [.int (i:Nat),x]
noncomputable def Cy:RV->Option (List PV×Bool)
 | .frz (.lst xs) n=>some (xs,n)
 | .own xs n=>some (xs,n)
 | _=>none
noncomputable def ml(x:RV):Option (List PV×Bool) :=
 match x with
 | .frz (.str z) _=>some (List.zipWith gi (List.range z.length) (signs z),true)
 | .frz (.tup xs) n=>some (List.zipWith gi (List.range xs.length) xs,n)
 | x=>match Cy x with
  | some (xs,n)=>some (List.zipWith gi (List.range xs.length) xs,n)
  | none=>none
noncomputable def vf:List ac->List PV->Option (List (Int×Int))
 | [],[]=>some []
 | .inl k::ks,.int v::vs=>(vf ks vs).map ((k,v)::·)
 | _,_=>none
noncomputable def qm:RV->Option RV
 | .frz (.dK ks vs) _=>if ks.length<=LN then(vf ks vs).map fun qs=>.own (qs.map fun q=>.tup [.int q.2,.int q.1]) true else none
 | _=>none
section
variable(cd:Nat->List PV->Option PV)
noncomputable def kA:PV->RV
 | .lst xs=>.own xs true
 | v=>.frz v true
mutual
noncomputable def aa:IE->En->Option RV
 | .con v,_=>some (sc v)
 | .var i,τ=>mW τ i
 | .bin op a b,τ=>(aa a τ).bind fun x=>(aa b τ).bind fun y=>eF op x y
 | .neg a,τ=>(aa a τ).bind fun x=>(Al x.val).map fun i=>sc (.int (-i))
 | .cmp op a b,τ=>(aa a τ).bind fun x=>(aa b τ).bind fun y=>(cS op x.val y.val).map fun r=>sc (.bl r)
 | .and a b,τ=>(aa a τ).bind fun x=>(ik x.val).bind fun t=>if t then aa b τ else some (sc (.bl false))
 | .or a b,τ=>(aa a τ).bind fun x=>(ik x.val).bind fun t=>if t then some (sc (.bl true))else aa b τ
 | .not a,τ=>(aa a τ).bind fun x=>(ik x.val).map fun b=>sc (.bl !b)
 | .ite c a b,τ=>(du c τ).bind fun r=>if r then aa a τ else aa b τ
 | .call f es,τ=>(dF es τ).bind fun rs=>(cd f (rs.map RV.val)).map kA
 | .bf f es,τ=>(dF es τ).bind fun rs=>lF f rs
 | .mth m o es,τ=>(aa o τ).bind fun x=>(dF es τ).bind fun rs=>qg m x rs
 | .lst es,τ=>(dF es τ).bind fun rs=>(keeps rs).bind fun(vs,n)=>qf vs n
 | .tup es,τ=>(dF es τ).bind fun rs=>(keeps rs).bind fun(vs,n)=>qe vs n
 | .dnew,_=>some (.owd (.dK []) [] true)
 | .dlit k e,τ=>(aa e τ).bind fun r=>r.keep.bind fun(v,_)=>if imm v then some (.owd (.dK [k]) [v] true)else none
 | .ix a i,τ=>(aa a τ).bind fun x=>(aa i τ).bind fun y=>index x y
 | .sl a lo hi,τ=>(aa a τ).bind fun x=>(A6 lo τ).bind fun l=>(A6 hi τ).bind fun h=>(oK l).bind fun l' =>(oK h).bind fun h' =>slice x l' h'
 | .rev a,τ=>(aa a τ).bind fun x=>tD x
 | .lc elt src ifs caps,τ=>(nQ src τ).bind fun(xs,n,_)=>if xs.length<=LN then(bD (fun x=>(ft ifs (.frz x (n||imm x)::caps.map fun i=>τ.getD i .un)).bind fun b =>
   if b then(aa elt (.frz x (n||imm x)::caps.map fun i=>τ.getD i .un)).bind fun r=>r.keep.map some else some none) xs).map fun(vs,m)=>.own vs m else none
 | .lc2 elt src ifs caps,τ=>(nQ src τ).bind fun(xs,n,_)=>if xs.length<=LN then(bD (fun x=>(iE x).bind fun(a,b)=>(ft ifs (.frz a (n||imm a)::.frz b (n||imm b)::caps.map fun i=>τ.getD i .un)).bind fun t =>
   if t then(aa elt (.frz a (n||imm a)::.frz b (n||imm b)::caps.map fun i=>τ.getD i .un)).bind fun r=>r.keep.map some else some none) xs).map fun(vs,m)=>.own vs m else none
 | .lcs a,τ=>(aa a τ).bind fun x=>qm x
 | .never,_=>none
noncomputable def dF:vg->En->Option (List RV)
 | .nil,_=>some []
 | .cons e es,τ=>(aa e τ).bind fun x=>(dF es τ).map (x::·)
noncomputable def A6:IO->En->Option (Option RV)
 | .no,_=>some none
 | .yes e,τ=>(aa e τ).map some
noncomputable def du:IC->En->Option Bool
 | .val e,τ=>(aa e τ).bind fun x=>lf x.val
 | .not c,τ=>(du c τ).map (!·)
 | .and c d,τ=>(du c τ).bind fun r=>if r then du d τ else some false
 | .or c d,τ=>(du c τ).bind fun r=>if r then some true else du d τ
noncomputable def ft:Bk->En->Option Bool
 | .no,_=>some true
 | .yes c,τ=>du c τ
noncomputable def nQ:IT->En->Option (List PV×Bool×Bool)
 | .seq e,τ=>(aa e τ).bind g9
 | .rng es,τ=>(dF es τ).bind fun rs=>(hJ rs).map fun xs=>(xs,true,false)
 | .enum a,τ=>(aa a τ).bind fun x=>(ml x).map fun(xs,n)=>(xs,n,false)
 | .never,_=>none
end
inductive Fl where
 | nx (τ:En)|bk (τ:En)|ct (τ:En)|rt (v:PV)
noncomputable def ee(f:Fl)(k:En->Option Fl):Option Fl:=match f with
 | .nx τ=>k τ
 | .bk τ=>some (.bk τ)
 | .ct τ=>some (.ct τ)
 | .rt v=>some (.rt v)
noncomputable def kh(τ:En)(i:Nat):En :=
 match τ[i]? with
 | some (.own xs n)=>τ.set i (.frz (.lst xs) n)
 | some (.owd b xs n)=>τ.set i (.frz (b.pv xs) n)
 | _=>τ
noncomputable def bF(cap:List Nat)(τ:En):En:=cap.foldl kh τ
noncomputable def kL(o:Bool)(i:Nat)(r:RV)(τ:En):Option En :=
 match o,r with
 | true,.own xs n=>some (τ.set i (.own xs n))
 | true,.owd b xs n=>some (τ.set i (.owd b xs n))
 | _,r=>r.keep.map fun(v,n)=>τ.set i (.frz v n)
noncomputable def cV(n:Bool):List Nat->List PV->En->Option En
 | [],[],τ=>some τ
 | i::is,x::xs,τ=>cV n is xs (τ.set i (.frz x (n||imm x)))
 | _,_,_=>none
noncomputable def kI(is:List Nat)(one n:Bool)(x:PV)(τ:En):Option En :=
 if one then cV n is [x] τ else match x with
  | .tup xs=>cV n is xs τ
  | _=>none
noncomputable def setU(is:List Nat)(n:Bool)(x:PV)(τ:En):Option En:=match x with
 | .tup xs=>cV n is xs τ
 | .lst xs=>cV n is xs τ
 | _=>none
noncomputable def iW(set:PV->En->Option En)(body:En->Option Fl):List PV->En->Option Fl
 | [],τ=>some (.nx τ)
 | x::xs,τ=>(set x τ).bind fun τ1=>(body τ1).bind fun f=>match f with
  | .nx τ2=>iW set body xs τ2
  | .ct τ2=>iW set body xs τ2
  | .bk τ2=>some (.nx τ2)
  | .rt v=>some (.rt v)
noncomputable def vb(c:En->Option Bool)(body:En->Option Fl):Nat->En->Option Fl
 | 0,_=>none
 | k+1,τ=>(c τ).bind fun b=>if b then(body τ).bind fun f=>(match f with
  | .nx τ2=>vb c body k τ2
  | .ct τ2=>vb c body k τ2
  | .bk τ2=>some (.nx τ2)
  | .rt v=>some (.rt v))else some (.nx τ)
variable(fu:Nat)
mutual
noncomputable def fO:IS->En->Option Fl
 | .asg i o cap e,τ=>let τ1:=bF cap τ;(aa cd e τ1).bind fun r=>(kL o i r τ1).map .nx
 | .ret cap e,τ=>let τ1:=bF cap τ;(aa cd e τ1).bind fun r=>r.keep.bind fun(v,n)=>if n then some (.rt v)else none
 | .retN,_=>some (.rt .non)
 | .ife c a b,τ=>(du cd c τ).bind fun r=>if r then bC a τ else bC b τ
 | .forr is one cap src body,τ=>let τ1:=bF cap τ;(nQ cd src τ1).bind fun(xs,n,b)=>if b then none else iW (kI is one n) (fun τ=>bC body τ) xs τ1
 | .whil c body,τ=>vb (fun τ=>du cd c τ) (fun τ=>bC body τ) fu τ
 | .pass,τ=>some (.nx τ)
 | .brk,τ=>some (.bk τ)
 | .cont,τ=>some (.ct τ)
 | .app i cap e,τ=>let τ1:=bF cap τ;(aa cd e τ1).bind fun r=>r.keep.bind fun(v,m)=>match τ1[i]? with
  | some (.own xs n)=>if xs.length<LN then some (.nx (τ1.set i (.own (xs++[v]) (n&&m))))else none
  | _=>none
 | .drop e,τ=>(aa cd e τ).map fun _=>.nx τ
 | .aug i op e,τ=>(aa cd e τ).bind fun r=>match τ[i]?,r.val,op with
  | some (.frz (.int x) _),.int y,.Add=>some (.nx (τ.set i (.frz (.int (x+y)) true)))
  | some (.frz (.int x) _),.int y,.Sub=>some (.nx (τ.set i (.frz (.int (x-y)) true)))
  | _,_,_=>none
 | .hand m g,τ=>(g ((τ.take m).map TV.valD)).map .rt
 | .never,_=>none
noncomputable def bC:rS->En->Option Fl
 | .nil,τ=>some (.nx τ)
 | .cons s ss,τ=>(fO s τ).bind fun f=>ee f (fun τ1=>bC ss τ1)
end
end
structure FD where
 nn:Nat
 np:Nat
 body:rS
noncomputable def entry(d:FD)(vs:List PV):En:=vs.map (fun v=>.frz v (imm v))++List.replicate (d.nn-vs.length) .un
noncomputable def dG:Option Fl->Option PV
 | some (.rt v)=>some v
 | some (.nx _)=>some .non
 | _=>none
noncomputable def aI(P:Nat->Option FD):Nat->Nat->List PV->Option PV
 | 0,_,_=>none
 | k+1,f,vs=>(P f).bind fun d=>if vs.length=d.np then dG (bC (aI P k) 1000000 d.body (entry d vs))else none
section
set_option autoImplicit true
set_option relaxedAutoImplicit true
variable{cd:Nat->List PV->Option PV}{fu:Nat}{τ:En}
theorem cD:aa cd (.con v) τ=(some (sc v)):=rfl
theorem bv:aa cd (.var i) τ=(mW τ i):=rfl
theorem cG:aa cd (.bin op a b) τ=((aa cd a τ).bind fun x=>(aa cd b τ).bind fun y=>eF op x y):=rfl
theorem cN:aa cd (.neg a) τ=((aa cd a τ).bind fun x=>(Al x.val).map fun i=>sc (.int (-i))):=rfl
theorem cE:aa cd (.cmp op a b) τ=((aa cd a τ).bind fun x=>(aa cd b τ).bind fun y=>(cS op x.val y.val).map fun r=>sc (.bl r)):=rfl
theorem cQ:aa cd (.and a b) τ=((aa cd a τ).bind fun x=>(ik x.val).bind fun t=>if t then aa cd b τ else some (sc (.bl false))):=rfl
theorem cK:aa cd (.or a b) τ=((aa cd a τ).bind fun x=>(ik x.val).bind fun t=>if t then some (sc (.bl true))else aa cd b τ):=rfl
theorem cL:aa cd (.not a) τ=((aa cd a τ).bind fun x=>(ik x.val).map fun b=>sc (.bl !b)):=rfl
theorem cO:aa cd (.ite c a b) τ=((du cd c τ).bind fun r=>if r then aa cd a τ else aa cd b τ):=rfl
theorem cF:aa cd (.call f es) τ=((dF cd es τ).bind fun rs=>(cd f (rs.map RV.val)).map kA):=rfl
theorem cH:aa cd (.bf f es) τ=((dF cd es τ).bind fun rs=>lF f rs):=rfl
theorem b5:aa cd (.mth m o es) τ=((aa cd o τ).bind fun x=>(dF cd es τ).bind fun rs=>qg m x rs):=rfl
theorem b6:aa cd (.lst es) τ=((dF cd es τ).bind fun rs=>(keeps rs).bind fun(vs,n)=>qf vs n):=rfl
theorem bw:aa cd (.tup es) τ=((dF cd es τ).bind fun rs=>(keeps rs).bind fun(vs,n)=>qe vs n):=rfl
theorem cP:aa cd (.dnew) τ=(some (.owd (.dK []) [] true)):=rfl
theorem cC:aa cd (.dlit k e) τ=((aa cd e τ).bind fun r=>r.keep.bind fun(v,_)=>if imm v then some (.owd (.dK [k]) [v] true)else none):=rfl
theorem cB:aa cd (.ix a i) τ=((aa cd a τ).bind fun x=>(aa cd i τ).bind fun y=>index x y):=rfl
theorem bx:aa cd (.sl a lo hi) τ=((aa cd a τ).bind fun x=>(A6 cd lo τ).bind fun l=>(A6 cd hi τ).bind fun h=>(oK l).bind fun l' =>(oK h).bind fun h' =>slice x l' h'):=rfl
theorem bz:aa cd (.rev a) τ=((aa cd a τ).bind fun x=>tD x):=rfl
theorem cA:aa cd (.lc elt src ifs caps) τ=((nQ cd src τ).bind fun(xs,n,_)=>if xs.length<=LN then(bD (fun x=>(ft cd ifs (.frz x (n||imm x)::caps.map fun i=>τ.getD i .un)).bind fun b =>
   if b then(aa cd elt (.frz x (n||imm x)::caps.map fun i=>τ.getD i .un)).bind fun r=>r.keep.map some else some none) xs).map fun(vs,m)=>.own vs m else none):=rfl
theorem b9:aa cd (.lc2 elt src ifs caps) τ=((nQ cd src τ).bind fun(xs,n,_)=>if xs.length<=LN then(bD (fun x=>(iE x).bind fun(a,b)=>(ft cd ifs (.frz a (n||imm a)::.frz b (n||imm b)::caps.map fun i=>τ.getD i .un)).bind fun t =>
   if t then(aa cd elt (.frz a (n||imm a)::.frz b (n||imm b)::caps.map fun i=>τ.getD i .un)).bind fun r=>r.keep.map some else some none) xs).map fun(vs,m)=>.own vs m else none):=rfl
theorem b7:aa cd (.lcs a) τ=((aa cd a τ).bind fun x=>qm x):=rfl
theorem cM:aa cd (.never) τ=(none):=rfl
theorem vY:dF cd (.nil) τ=(some []):=rfl
theorem vZ:dF cd (.cons e es) τ=((aa cd e τ).bind fun x=>(dF cd es τ).map (x::·)):=rfl
theorem z0v:A6 cd (.no) τ=(some none):=rfl
theorem z0w:A6 cd (.yes e) τ=((aa cd e τ).map some):=rfl
theorem sD:du cd (.val e) τ=((aa cd e τ).bind fun x=>lf x.val):=rfl
theorem va:du cd (.not c) τ=((du cd c τ).map (!·)):=rfl
theorem sF:du cd (.and c d) τ=((du cd c τ).bind fun r=>if r then du cd d τ else some false):=rfl
theorem sE:du cd (.or c d) τ=((du cd c τ).bind fun r=>if r then some true else du cd d τ):=rfl
theorem yz:ft cd (.no) τ=(some true):=rfl
theorem yy:ft cd (.yes c) τ=(du cd c τ):=rfl
theorem yv:nQ cd (.seq e) τ=((aa cd e τ).bind g9):=rfl
theorem yw:nQ cd (.rng es) τ=((dF cd es τ).bind fun rs=>(hJ rs).map fun xs=>(xs,true,false)):=rfl
theorem yx:nQ cd (.enum a) τ=((aa cd a τ).bind fun x=>(ml x).map fun(xs,n)=>(xs,n,false)):=rfl
theorem Bo:nQ cd (.never) τ=(none):=rfl
theorem gU:fO cd fu (.asg i o cap e) τ=(let τ1:=bF cap τ;(aa cd e τ1).bind fun r=>(kL o i r τ1).map .nx):=rfl
theorem gK:fO cd fu (.ret cap e) τ=(let τ1:=bF cap τ;(aa cd e τ1).bind fun r=>r.keep.bind fun(v,n)=>if n then some (.rt v)else none):=rfl
theorem gJ:fO cd fu (.retN) τ=(some (.rt .non)):=rfl
theorem gN:fO cd fu (.ife c a b) τ=((du cd c τ).bind fun r=>if r then bC cd fu a τ else bC cd fu b τ):=rfl
theorem gP:fO cd fu (.forr is one cap src body) τ=(let τ1:=bF cap τ;(nQ cd src τ1).bind fun(xs,n,b)=>if b then none else iW (kI is one n) (fun τ=>bC cd fu body τ) xs τ1):=rfl
theorem gI:fO cd fu (.whil c body) τ=(vb (fun τ=>du cd c τ) (fun τ=>bC cd fu body τ) fu τ):=rfl
theorem gL:fO cd fu (.pass) τ=(some (.nx τ)):=rfl
theorem gS:fO cd fu (.brk) τ=(some (.bk τ)):=rfl
theorem gR:fO cd fu (.cont) τ=(some (.ct τ)):=rfl
theorem gW:fO cd fu (.app i cap e) τ=(let τ1:=bF cap τ;(aa cd e τ1).bind fun r=>r.keep.bind fun(v,m)=>match τ1[i]? with
  | some (.own xs n)=>if xs.length<LN then some (.nx (τ1.set i (.own (xs++[v]) (n&&m))))else none
  | _=>none):=rfl
theorem gQ:fO cd fu (.drop e) τ=((aa cd e τ).map fun _=>.nx τ):=rfl
theorem gT:fO cd fu (.aug i op e) τ=((aa cd e τ).bind fun r=>match τ[i]?,r.val,op with
  | some (.frz (.int x) _),.int y,.Add=>some (.nx (τ.set i (.frz (.int (x+y)) true)))
  | some (.frz (.int x) _),.int y,.Sub=>some (.nx (τ.set i (.frz (.int (x-y)) true)))
  | _,_,_=>none):=rfl
theorem gO:fO cd fu (.hand m g) τ=((g ((τ.take m).map TV.valD)).map .rt):=rfl
theorem gM:fO cd fu (.never) τ=(none):=rfl
theorem vW:bC cd fu (.nil) τ=(some (.nx τ)):=rfl
theorem vX:bC cd fu (.cons s ss) τ=((fO cd fu s τ).bind fun f=>ee f (fun τ1=>bC cd fu ss τ1)):=rfl
end
end IR
namespace IR
open PySem PySem.Spec PyProof.Rows L2
noncomputable def del(H:Hp)(p:Addr):Hp:=fun b=>if b=p then none else H b
noncomputable def aM(H:Hp)(O:List Addr):Hp:=fun b=>if b∈O then none else H b
theorem de{H H' :Hp}{p:Addr}(s:aC H H'):aC (del H p) (del H' p):=fun b o e=>by
 unfold del at e ⊢
 split at e
 ·cases e
 ·rename_i h
  rw[Dz h];exact s b o e
theorem aK{H H' :Hp}{O:List Addr}(s:aC H H'):aC (aM H O) (aM H' O):=fun b o e=>by
 unfold aM at e ⊢
 split at e
 ·cases e
 ·rename_i h
  rw[Dz h];exact s b o e
theorem ay{H:Hp}{p:Addr}:aC (del H p) H:=fun b o e=>by
 unfold del at e
 split at e
 ·cases e
 ·exact e
theorem aW{H:Hp}{O:List Addr}:aC (aM H O) H:=fun b o e=>by
 unfold aM at e
 split at e
 ·cases e
 ·exact e
theorem pX{H:Hp}{O O' :List Addr}(h:∀b∈O',b∈O):aC (aM H O) (aM H O'):=fun b o e=>by
 unfold aM at e ⊢
 split at e
 ·cases e
 ·rename_i n
  rw[Dz fun z=>n (h b z)];exact e
theorem xS{H:Hp}:aM H []=H:=by funext b;unfold aM;simp
section
variable(K:W.Frag)(Hi:Hp)
mutual
noncomputable def Rp(n:Bool):PV->Hp->V->Prop
 | .non,_,u=>u=.non
 | .bl b,_,u=>u=.bl b
 | .int i,_,u=>u=.int i
 | .str z,_,u=>u=.str z
 | .lst xs,H,u=>∃p us,u=.ref p/\(n=true->Hi p=none/\H p=some (.lst us))/\bJ K H p us/\aF n xs (del H p) us
 | .tup xs,H,u=>∃p us,u=.ref p/\cJ K H p us/\aF n xs H us
 | .dK ks vs,H,u=>∃p us,u=.ref p/\(n=true->Hi p=none)/\H p=some (.dK (ks.zip us))/\ks.length=us.length/\aF n vs (del H p) us
 | .dT ks vs,H,u=>∃p us,u=.ref p/\(n=true->Hi p=none)/\H p=some (.dT (ks.zip us))/\ks.length=us.length/\aF n vs (del H p) us
noncomputable def aF(n:Bool):List PV->Hp->List V->Prop
 | [],_,us=>us=[]
 | x::xs,H,us=>∃u r,us=u::r/\Rp n x H u/\aF n xs H r
end
end
section
variable{K:W.Frag}{Hi:Hp}
mutual
theorem Rp.mono{n:Bool}:∀{v:PV}{H H' :Hp}{u:V},aC H H' ->Rp K Hi n v H u->Rp K Hi n v H' u
 | .non,_,_,_,_,h=>by unfold Rp at h ⊢;exact h
 | .bl _,_,_,_,_,h=>by unfold Rp at h ⊢;exact h
 | .int _,_,_,_,_,h=>by unfold Rp at h ⊢;exact h
 | .str _,_,_,_,_,h=>by unfold Rp at h ⊢;exact h
 | .lst xs,_,_,_,s,h=>by
  unfold Rp at h ⊢;obtain⟨p,us,e,q,l,r⟩:=h;exact⟨p,us,e,fun z=>⟨(q z).1,s _ _ (q z).2⟩,s.seq l,aF.mono (de s) r⟩
 | .tup xs,_,_,_,s,h=>by
  unfold Rp at h ⊢;obtain⟨p,us,e,l,r⟩:=h;exact⟨p,us,e,s.tup l,aF.mono s r⟩
 | .dK ks vs,_,_,_,s,h=>by
  unfold Rp at h ⊢;obtain⟨p,us,e,q,l,z,r⟩:=h;exact⟨p,us,e,q,s _ _ l,z,aF.mono (de s) r⟩
 | .dT ks vs,_,_,_,s,h=>by
  unfold Rp at h ⊢;obtain⟨p,us,e,q,l,z,r⟩:=h;exact⟨p,us,e,q,s _ _ l,z,aF.mono (de s) r⟩
theorem aF.mono{n:Bool}:∀{xs:List PV}{H H' :Hp}{us:List V},aC H H' ->aF K Hi n xs H us->aF K Hi n xs H' us
 | [],_,_,_,_,h=>by unfold aF at h ⊢;exact h
 | x::xs,_,_,_,s,h=>by
  unfold aF at h ⊢;obtain⟨u,r,e,a,b⟩:=h;exact⟨u,r,e,Rp.mono s a,aF.mono s b⟩
end
mutual
theorem Rp.weak{n:Bool}:∀{v:PV}{H:Hp}{u:V},Rp K Hi n v H u->Rp K Hi false v H u
 | .non,_,_,h=>by unfold Rp at h ⊢;exact h
 | .bl _,_,_,h=>by unfold Rp at h ⊢;exact h
 | .int _,_,_,h=>by unfold Rp at h ⊢;exact h
 | .str _,_,_,h=>by unfold Rp at h ⊢;exact h
 | .lst xs,_,_,h=>by
  unfold Rp at h ⊢;obtain⟨p,us,e,q,l,r⟩:=h;exact⟨p,us,e,(fun z=>absurd z Dy),l,aF.weak r⟩
 | .tup xs,_,_,h=>by
  unfold Rp at h ⊢;obtain⟨p,us,e,l,r⟩:=h;exact⟨p,us,e,l,aF.weak r⟩
 | .dK ks vs,_,_,h=>by
  unfold Rp at h ⊢;obtain⟨p,us,e,q,l,z,r⟩:=h;exact⟨p,us,e,(fun z=>absurd z Dy),l,z,aF.weak r⟩
 | .dT ks vs,_,_,h=>by
  unfold Rp at h ⊢;obtain⟨p,us,e,q,l,z,r⟩:=h;exact⟨p,us,e,(fun z=>absurd z Dy),l,z,aF.weak r⟩
theorem aF.weak{n:Bool}:∀{xs:List PV}{H:Hp}{us:List V},aF K Hi n xs H us->aF K Hi false xs H us
 | [],_,_,h=>by unfold aF at h ⊢;exact h
 | x::xs,_,_,h=>by
  unfold aF at h ⊢;obtain⟨u,r,e,a,b⟩:=h;exact⟨u,r,e,Rp.weak a,aF.weak b⟩
end
theorem Rp.low{n m:Bool}{v:PV}{H:Hp}{u:V}(h:Rp K Hi n v H u)(e:m=true->n=true):Rp K Hi m v H u:=by
 cases n with
 | true=>cases m with
  | true=>exact h
  | false=>exact h.weak
 | false=>cases m with
  | true=>cases e rfl
  | false=>exact h
theorem aF.low{n m:Bool}{v:List PV}{H:Hp}{u:List V}(h:aF K Hi n v H u)(e:m=true->n=true):aF K Hi m v H u:=by
 cases n with
 | true=>cases m with
  | true=>exact h
  | false=>exact h.weak
 | false=>cases m with
  | true=>cases e rfl
  | false=>exact h
mutual
theorem Rp.entry{Hj:Hp}{n:Bool}(k:n=true->∀p,Hi p=none->Hj p=none):∀{v:PV}{H:Hp}{u:V},Rp K Hi n v H u->Rp K Hj n v H u
 | .non,_,_,h=>by unfold Rp at h ⊢;exact h
 | .bl _,_,_,h=>by unfold Rp at h ⊢;exact h
 | .int _,_,_,h=>by unfold Rp at h ⊢;exact h
 | .str _,_,_,h=>by unfold Rp at h ⊢;exact h
 | .lst xs,_,_,h=>by
  unfold Rp at h ⊢;obtain⟨p,us,e,q,l,r⟩:=h;exact⟨p,us,e,fun z=>⟨k z _ (q z).1,(q z).2⟩,l,aF.entry k r⟩
 | .tup xs,_,_,h=>by
  unfold Rp at h ⊢;obtain⟨p,us,e,l,r⟩:=h;exact⟨p,us,e,l,aF.entry k r⟩
 | .dK ks vs,_,_,h=>by
  unfold Rp at h ⊢;obtain⟨p,us,e,q,l,z,r⟩:=h;exact⟨p,us,e,fun z=>k z _ (q z),l,z,aF.entry k r⟩
 | .dT ks vs,_,_,h=>by
  unfold Rp at h ⊢;obtain⟨p,us,e,q,l,z,r⟩:=h;exact⟨p,us,e,fun z=>k z _ (q z),l,z,aF.entry k r⟩
theorem aF.entry{Hj:Hp}{n:Bool}(k:n=true->∀p,Hi p=none->Hj p=none):∀{xs:List PV}{H:Hp}{us:List V},aF K Hi n xs H us->aF K Hj n xs H us
 | [],_,_,h=>by unfold aF at h ⊢;exact h
 | x::xs,_,_,h=>by
  unfold aF at h ⊢;obtain⟨u,r,e,a,b⟩:=h;exact⟨u,r,e,Rp.entry k a,aF.entry k b⟩
end
noncomputable def ot(H G:Hp):Prop:=(∀b xs,H b=some (.tup xs)->G b=some (.tup xs))/\∀b o xs,H b=some (.frz o (.tup xs))->G b=some (.frz o (.tup xs))
theorem ot.at{H G:Hp}(t:ot H G){p:Addr}{xs:List V}(h:cJ K H p xs):cJ K G p xs:=by
 rcases h with(h|⟨o,h⟩)|h
 ·exact .inl (.inl (t.1 _ _ h))
 ·exact .inl (.inr ⟨o,t.2 _ _ _ h⟩)
 ·exact .inr h
mutual
theorem Rp.imm{n m:Bool}:∀{v:PV}{H G:Hp}{u:V},imm v=true->ot H G->Rp K Hi n v H u->Rp K Hi m v G u
 | .non,_,_,_,_,_,h=>by unfold Rp at h ⊢;exact h
 | .bl _,_,_,_,_,_,h=>by unfold Rp at h ⊢;exact h
 | .int _,_,_,_,_,_,h=>by unfold Rp at h ⊢;exact h
 | .str _,_,_,_,_,_,h=>by unfold Rp at h ⊢;exact h
 | .lst xs,_,_,_,i,_,h=>by unfold IR.imm at i;cases i
 | .tup xs,_,_,_,i,t,h=>by
  unfold Rp at h ⊢;unfold IR.imm at i;obtain⟨p,us,e,l,r⟩:=h;exact⟨p,us,e,t.at l,aF.imm i t r⟩
 | .dK ks vs,_,_,_,i,_,h=>by unfold IR.imm at i;cases i
 | .dT ks vs,_,_,_,i,_,h=>by unfold IR.imm at i;cases i
theorem aF.imm{n m:Bool}:∀{xs:List PV}{H G:Hp}{us:List V},imms xs=true->ot H G->aF K Hi n xs H us->aF K Hi m xs G us
 | [],_,_,_,_,_,h=>by unfold aF at h ⊢;exact h
 | x::xs,_,_,_,i,t,h=>by
  unfold aF at h ⊢;unfold imms at i;rw[Du]at i;obtain⟨u,r,e,a,b⟩:=h;exact⟨u,r,e,Rp.imm i.1 t a,aF.imm i.2 t b⟩
end
theorem Rp.up{n:Bool}{v:PV}{H:Hp}{u:V}(h:Rp K Hi n v H u):Rp K Hi (n||IR.imm v) v H u:=by
 cases e:IR.imm v with
 | true=>rw[Bool.or_true];exact Rp.imm e ⟨fun _ _ e=>e,fun _ _ _ e=>e⟩ h
 | false=>rw[Bool.or_false];exact h
theorem aF.up{n:Bool}{v:List PV}{H:Hp}{u:List V}(h:aF K Hi n v H u):aF K Hi (n||IR.imms v) v H u:=by
 cases e:IR.imms v with
 | true=>rw[Bool.or_true];exact aF.imm e ⟨fun _ _ e=>e,fun _ _ _ e=>e⟩ h
 | false=>rw[Bool.or_false];exact h
theorem aF.len{n:Bool}:∀{xs:List PV}{H:Hp}{us:List V},aF K Hi n xs H us->xs.length=us.length
 | [],_,_,h=>by unfold aF at h;rw[h];rfl
 | x::xs,_,_,h=>by
  unfold aF at h;obtain⟨u,r,e,a,b⟩:=h;rw[e,ED,ED,aF.len b]
theorem aF.at{n:Bool}:∀{xs:List PV}{H:Hp}{us:List V}{i:Nat}{x:PV},aF K Hi n xs H us->xs[i]? =some x->∃u,us[i]? =some u/\Rp K Hi n x H u
 | [],_,_,_,_,h,e=>by simp at e
 | y::xs,_,_,i,x,h,e=>by
  unfold aF at h;obtain⟨u,r,rfl,a,b⟩:=h;cases i with
  | zero=>simp at e;subst e;exact⟨u,by simp,a⟩
  | succ i=>simpa using aF.at (i:=i) (x:=x) b (by simpa using e)
theorem aF.at'{n:Bool}:∀{xs:List PV}{H:Hp}{us:List V}{i:Nat}{u:V},aF K Hi n xs H us->us[i]? =some u->∃x,xs[i]? =some x/\Rp K Hi n x H u
 | [],_,_,_,_,h,e=>by unfold aF at h;subst h;simp at e
 | y::xs,_,_,i,x,h,e=>by
  unfold aF at h;obtain⟨u,r,rfl,a,b⟩:=h;cases i with
  | zero=>simp at e;subst e;exact⟨y,by simp,a⟩
  | succ i=>simpa using aF.at' (i:=i) (u:=x) b (by simpa using e)
theorem aF.nil{n:Bool}{H:Hp}:aF K Hi n [] H []:=by unfold aF;rfl
theorem aF.cons{n:Bool}{x:PV}{xs:List PV}{H:Hp}{u:V}{us:List V}(a:Rp K Hi n x H u)(b:aF K Hi n xs H us):aF K Hi n (x::xs) H (u::us):=by unfold aF;exact⟨u,us,rfl,a,b⟩
theorem aF.app{n:Bool}:∀{xs ys:List PV}{H:Hp}{us vs:List V},aF K Hi n xs H us->aF K Hi n ys H vs->aF K Hi n (xs++ys) H (us++vs)
 | [],_,_,_,_,h,g=>by unfold aF at h;subst h;exact g
 | x::xs,_,_,_,_,h,g=>by
  unfold aF at h;obtain⟨u,r,rfl,a,b⟩:=h;exact .cons a (aF.app b g)
theorem aF.take{n:Bool}:∀{xs:List PV}{H:Hp}{us:List V}(k:Nat),aF K Hi n xs H us->aF K Hi n (xs.take k) H (us.take k)
 | [],_,_,_,h=>by unfold aF at h;subst h;simp;exact .nil
 | x::xs,_,_,k,h=>by
  unfold aF at h;obtain⟨u,r,rfl,a,b⟩:=h;cases k with
  | zero=>exact .nil
  | succ k=>exact .cons a (aF.take k b)
theorem aF.drop{n:Bool}:∀{xs:List PV}{H:Hp}{us:List V}(k:Nat),aF K Hi n xs H us->aF K Hi n (xs.drop k) H (us.drop k)
 | [],_,_,_,h=>by unfold aF at h;subst h;simp;exact .nil
 | x::xs,_,_,k,h=>by
  unfold aF at h;obtain⟨u,r,rfl,a,b⟩:=h;cases k with
  | zero=>exact .cons a b
  | succ k=>exact aF.drop k b
theorem aF.rev{n:Bool}:∀{xs:List PV}{H:Hp}{us:List V},aF K Hi n xs H us->aF K Hi n xs.reverse H us.reverse
 | [],_,_,h=>by unfold aF at h;subst h;exact .nil
 | x::xs,_,_,h=>by
  unfold aF at h;obtain⟨u,r,rfl,a,b⟩:=h;rw[Fj,Fj];exact aF.app (aF.rev b) (.cons a .nil)
theorem aF.set{n:Bool}:∀{xs:List PV}{H:Hp}{us:List V}(k:Nat){x:PV}{u:V},aF K Hi n xs H us->Rp K Hi n x H u->aF K Hi n (xs.set k x) H (us.set k u)
 | [],_,_,_,_,_,h,_=>by unfold aF at h;subst h;exact .nil
 | y::xs,_,_,k,_,_,h,g=>by
  unfold aF at h;obtain⟨u,r,rfl,a,b⟩:=h;cases k with
  | zero=>exact .cons g b
  | succ k=>exact .cons a (aF.set k b g)
theorem Rp.int{n:Bool}{i:Int}{H:Hp}{u:V}:Rp K Hi n (.int i) H u↔u=.int i:=by unfold Rp;rfl
theorem Rp.str{n:Bool}{i:Str}{H:Hp}{u:V}:Rp K Hi n (.str i) H u↔u=.str i:=by unfold Rp;rfl
theorem Rp.bl{n:Bool}{i:Bool}{H:Hp}{u:V}:Rp K Hi n (.bl i) H u↔u=.bl i:=by unfold Rp;rfl
theorem Rp.non{n:Bool}{H:Hp}{u:V}:Rp K Hi n .non H u↔u=.non:=by unfold Rp;rfl
theorem Rp.tup{n:Bool}{xs:List PV}{H:Hp}{u:V}:Rp K Hi n (.tup xs) H u↔∃p us,u=.ref p/\cJ K H p us/\aF K Hi n xs H us:=by rw[Rp]
theorem Rp.lst{n:Bool}{xs:List PV}{H:Hp}{u:V}:Rp K Hi n (.lst xs) H u↔∃p us,u=.ref p/\(n=true->Hi p=none/\H p=some (.lst us))/\bJ K H p us/\aF K Hi n xs (del H p) us:=by rw[Rp]
theorem aF.ints{n:Bool}{H:Hp}:∀{xs:List Int}{us:List V},aF K Hi n (xs.map PV.int) H us↔us=xs.map V.int
 | [],us=>by unfold aF;rfl
 | x::xs,us=>by
  rw[D2,D2,aF]
  constructor
  ·rintro⟨u,r,rfl,a,b⟩
   rw[Rp.int.mp a,aF.ints.mp b]
  ·rintro rfl
   exact⟨_,_,rfl,Rp.int.mpr rfl,aF.ints.mpr rfl⟩
noncomputable def At:Bd->List V->HO->Prop
 | .lst,us,o=>o=.lst us
 | .dK ks,us,o=>o=.dK (ks.zip us)/\ks.length=us.length
 | .dT ks,us,o=>o=.dT (ks.zip us)/\ks.length=us.length
noncomputable def Mo(o:HO):Prop:=∃b us,At b us o
theorem Mo.lst{us:List V}:Mo (.lst us):=⟨.lst,us,rfl⟩
theorem Mo.tup{xs:List V}(h:Mo (.tup xs)):False:=by
 obtain⟨b,us,h⟩:=h;cases b with
 | lst=>cases h
 | dK ks=>cases h.1
 | dT ks=>cases h.1
variable(K Hi)in
structure ah(O:List Addr)(τ:En)(σ:L2.St)(H:Hp):Prop where
 same:aC Hi H
 own:∀l∈O,Hi l=none/\∃o,H l=some o/\Mo o
 frz:∀(i:Nat)(v:PV)(n:Bool),τ[i]? =some (.frz v n)->∃u,σ[i]? =some (some u)/\Rp K Hi n v (aM H O) u
 obs:∀(i:Nat)(t:TV)(b:Bd)(xs:List PV)(n:Bool),τ[i]? =some t->t.ob=some (b,xs,n)->∃l us o,σ[i]? =some (some (.ref l))/\l∈O/\H l=some o/\At b us o/\aF K Hi n xs (aM H O) us
 dst:∀(i j:Nat)(t t' :TV)(x y:Bd×List PV×Bool)(l:Addr),τ[i]? =some t->t.ob=some x->τ[j]? =some t' ->t'.ob=some y->σ[i]? =some (some (.ref l))->σ[j]? =some (some (.ref l))->i=j
section
variable{O:List Addr}{τ:En}{σ:L2.St}{H H' :Hp}
theorem ah.owns(R:ah K Hi O τ σ H)(i:Nat)(xs:List PV)(n:Bool)(e:τ[i]? =some (.own xs n)):∃l us,σ[i]? =some (some (.ref l))/\l∈O/\H l=some (.lst us)/\aF K Hi n xs (aM H O) us:=by
 obtain⟨l,us,o,h1,h2,h3,h4,h5⟩:=R.obs i _ .lst xs n e rfl;cases h4;exact⟨l,us,h1,h2,h3,h5⟩
theorem ah.ext(R:ah K Hi O τ σ H)(s:aC H H'):ah K Hi O τ σ H' where
 same:=R.same.trans s
 own:=fun l hl=>⟨(R.own l hl).1,by obtain⟨o,e,m⟩:=(R.own l hl).2;exact⟨o,s _ _ e,m⟩⟩
 frz:=fun i v n e=>by obtain⟨u,h1,h2⟩:=R.frz i v n e;exact⟨u,h1,h2.mono (aK s)⟩
 obs:=fun i t b xs n e ht=>by obtain⟨l,us,o,h1,h2,h3,h4,h5⟩:=R.obs i t b xs n e ht;exact⟨l,us,o,h1,h2,s _ _ h3,h4,h5.mono (aK s)⟩
 dst:=R.dst
theorem ah.tups(R:ah K Hi O τ σ H):ot H (aM H O):=by
 refine⟨fun b xs e=> ?_,fun b o xs e=> ?_⟩
 ·unfold aM
  rw[Dz fun z=> ?_]
  ·exact e
  ·obtain⟨us,e',m⟩:=(R.own b z).2
   rw[e]at e';cases e';exact m.tup
 ·unfold aM
  rw[Dz fun z=> ?_]
  ·exact e
  ·obtain⟨us,e',m⟩:=(R.own b z).2
   rw[e]at e';cases e';obtain⟨b,us,m⟩:=m;cases b with
   | lst=>cases m
   | dK ks=>cases m.1
   | dT ks=>cases m.1
theorem am{α:Type}{l:List α}{i j:Nat}{x y:α}(h:(l.set i x)[j]? =some y):(i=j/\y=x)\/(i≠j/\l[j]? =some y):=by
 rw[F6]at h
 split at h
 ·rename_i e
  split at h
  ·exact .inl ⟨e,(EJ h).symm⟩
  ·cases h
 ·rename_i e
  exact .inr ⟨e,h⟩
theorem ah.setF(R:ah K Hi O τ σ H){i:Nat}{v:PV}{n:Bool}{u:V}(hi:i<σ.length)(r:Rp K Hi n v (aM H O) u):ah K Hi O (τ.set i (.frz v n)) (σ.set i (some u)) H where
 same:=R.same
 own:=R.own
 frz:=fun j w m e=>by
  rcases am e with⟨rfl,e'⟩|⟨ne,e'⟩
  ·cases e'
   exact⟨u,by rw[Eu hi],r⟩
  ·obtain⟨u',h1,h2⟩:=R.frz j w m e'
   exact⟨u',by rw[Ec ne];exact h1,h2⟩
 obs:=fun j t b xs m e ht=>by
  rcases am e with⟨rfl,e'⟩|⟨ne,e'⟩
  ·subst e'
   cases ht
  ·obtain⟨l,us,o,h1,h2⟩:=R.obs j t b xs m e' ht
   exact⟨l,us,o,by rw[Ec ne];exact h1,h2⟩
 dst:=fun a b t t' x y l e1 ht e2 ht' h1 h2=>by
  rcases am e1 with⟨_,z⟩|⟨ne1,z1⟩
  ·subst z
   cases ht
  ·rcases am e2 with⟨_,z⟩|⟨ne2,z2⟩
   ·subst z
    cases ht'
   ·rw[Ec ne1]at h1
    rw[Ec ne2]at h2;exact R.dst a b t t' x y l z1 ht z2 ht' h1 h2
theorem ah.setB(R:ah K Hi O τ σ H){i:Nat}{t0:TV}{b0:Bd}{xs:List PV}{n:Bool}{p:Addr}{us:List V}{o:HO}(hob:t0.ob=some (b0,xs,n))(hi:i<σ.length)(s:aC H H')(h0:H p=none)(h1:H' p=some o)(ha:At b0 us o)(r:aF K Hi n xs (aM H' (p::O)) us) :
  ah K Hi (p::O) (τ.set i t0) (σ.set i (some (.ref p))) H' :=by
 have hs:aC (aM H O) (aM H' (p::O)):=fun b o e=>by
  unfold aM at e ⊢
  split at e
  ·cases e
  ·rename_i nb
   have ne:b≠p:=aG e h0;rw[Dz (by simp[ne,nb])];exact s b o e
 have hn:Hi p=none:=R.same.free h0;refine⟨R.same.trans s,fun l hl=> ?_,fun j w m e=> ?_,fun j t b ys m e ht=> ?_,fun a b t t' x y l e1 ht e2 ht' g1 g2=> ?_⟩
 ·rcases D8.mp hl with rfl|hl
  ·exact⟨hn,o,h1,_,_,ha⟩
  ·obtain⟨q,vs,e,m⟩:=R.own l hl
   exact⟨q,vs,s _ _ e,m⟩
 ·rcases am e with⟨rfl,e'⟩|⟨ne,e'⟩
  ·rw[<- e']at hob
   cases hob
  ·obtain⟨u',g1,g2⟩:=R.frz j w m e'
   exact⟨u',by rw[Ec ne];exact g1,g2.mono hs⟩
 ·rcases am e with⟨rfl,e'⟩|⟨ne,e'⟩
  ·subst e'
   rw[hob]at ht;cases ht;exact⟨p,us,o,by rw[Eu hi],Ds,h1,ha,r⟩
  ·obtain⟨l,vs,o',g1,g2,g3,g4,g5⟩:=R.obs j t b ys m e' ht
   exact⟨l,vs,o',by rw[Ec ne];exact g1,Dq _ g2,s _ _ g3,g4,g5.mono hs⟩
 ·have old:∀(c:Nat)(t:TV)(x:Bd×List PV×Bool),τ[c]? =some t->t.ob=some x->σ[c]? =some (some (.ref l))->l≠p:=fun c t x e ht g=>by
   obtain⟨b',zs,q⟩:=x;obtain⟨l',vs,o',q1,q2,q3,_⟩:=R.obs c t b' zs q e ht;rw[q1]at g;cases g;exact aG q3 h0
  rcases am e1 with⟨rfl,z1⟩|⟨ne1,z1⟩
  ·rw[Eu hi]at g1
   cases g1
   rcases am e2 with⟨rfl,_⟩|⟨ne2,z2⟩
   ·rfl
   ·rw[Ec ne2]at g2
    exact absurd rfl (old b t' y z2 ht' g2)
  ·rw[Ec ne1]at g1
   rcases am e2 with⟨rfl,z2⟩|⟨ne2,z2⟩
   ·rw[Eu hi]at g2
    cases g2;exact absurd rfl (old a t x z1 ht g1)
   ·rw[Ec ne2]at g2
    exact R.dst a b t t' x y l z1 ht z2 ht' g1 g2
theorem ah.setO(R:ah K Hi O τ σ H){i:Nat}{xs:List PV}{n:Bool}{p:Addr}{us:List V}(hi:i<σ.length)(s:aC H H')(h0:H p=none)(h1:H' p=some (.lst us))(r:aF K Hi n xs (aM H' (p::O)) us) :
  ah K Hi (p::O) (τ.set i (.own xs n)) (σ.set i (some (.ref p))) H' :=R.setB (b0:=.lst) rfl hi s h0 h1 rfl r
theorem ah.updB(R:ah K Hi O τ σ H){i:Nat}{t t1:TV}{b b1:Bd}{xs ys:List PV}{n m:Bool}{l:Addr}{us:List V}{o:HO}(e:τ[i]? =some t)(ht:t.ob=some (b,xs,n))(ht1:t1.ob=some (b1,ys,m))(hl:σ[i]? =some (some (.ref l)))(ha:At b1 us o)(r:aF K Hi m ys (aM H O) us) :
  ah K Hi O (τ.set i t1) σ (L2.upd H l o):=by
 obtain⟨l',vs,o',g1,g2,g3,g4,g5⟩:=R.obs i t b xs n e ht;rw[hl]at g1;cases g1;have hh:aM (L2.upd H l o) O=aM H O:=by
  funext b
  unfold aM
  split
  ·rfl
  ·rename_i nb
   exact aB fun z=>nb (z▸g2)
 have hn:=(R.own l g2).1;have hi:i<τ.length:=(D1.mp e).1;refine⟨fun b o q=> ?_,fun k hk=> ?_,fun j w q z=> ?_,fun j t2 b2 zs q z ht2=> ?_,fun a b t2 t3 x y c e1 h2 e2 h3 k1 k2=> ?_⟩
 ·rw[aB (aG q hn)]
  exact R.same b o q
 ·obtain⟨q,ws,z,mo⟩:=R.own k hk
  refine⟨q,?_⟩
  by_cases c:k=l
  ·subst c
   exact⟨o,aD,_,_,ha⟩
  ·exact⟨ws,by rw[aB c];exact z,mo⟩
 ·rw[hh]
  rcases am z with⟨rfl,z'⟩|⟨ne,z'⟩
  ·rw[<- z']at ht1
   cases ht1
  ·exact R.frz j w q z'
 ·rw[hh]
  rcases am z with⟨rfl,z'⟩|⟨ne,z'⟩
  ·subst z'
   rw[ht1]at ht2;cases ht2;exact⟨l,us,o,hl,g2,aD,ha,r⟩
  ·obtain⟨l2,ws,o2,q1,q2,q3,q4,q5⟩:=R.obs j t2 b2 zs q z' ht2
   refine⟨l2,ws,o2,q1,q2,?_,q4,q5⟩;rw[aB fun c=> ?_]
   ·exact q3
   ·subst c
    exact ne (R.dst i j t t2 _ _ l2 e ht z' ht2 hl q1)
 ·have back:∀(c:Nat)(t2:TV)(x:Bd×List PV×Bool),(τ.set i t1)[c]? =some t2->t2.ob=some x->∃(t3:TV)(y:Bd×List PV×Bool),τ[c]? =some t3/\t3.ob=some y:=fun c t2 x z h=>by
   rcases am z with⟨rfl,_⟩|⟨_,z'⟩
   ·exact⟨_,_,e,ht⟩
   ·exact⟨_,_,z',h⟩
  obtain⟨_,_,z1,w1⟩:=back a t2 x e1 h2;obtain⟨_,_,z2,w2⟩:=back b t3 y e2 h3;exact R.dst a b _ _ _ _ c z1 w1 z2 w2 k1 k2
theorem ah.upd(R:ah K Hi O τ σ H){i:Nat}{xs ys:List PV}{n m:Bool}{l:Addr}{us:List V}(e:τ[i]? =some (.own xs n))(hl:σ[i]? =some (some (.ref l)))(r:aF K Hi m ys (aM H O) us) :
  ah K Hi O (τ.set i (.own ys m)) σ (L2.upd H l (.lst us)):=R.updB (b1:=.lst) e rfl rfl hl rfl r
theorem Rp.at{n:Bool}{b:Bd}{xs:List PV}{us:List V}{o:HO}{l:Addr}{G:Hp}(hn:n=true->Hi l=none)(h:G l=some o)(ha:At b us o)(r:aF K Hi n xs (del G l) us):Rp K Hi n (b.pv xs) G (.ref l):=by
 cases b with
 | lst=>cases ha;exact Rp.lst.mpr ⟨l,us,rfl,fun z=>⟨hn z,h⟩,bJ.of h,r⟩
 | dK ks =>
  obtain⟨rfl,hl⟩:=ha;show Rp K Hi n (.dK ks xs) G (.ref l);unfold Rp;exact⟨l,us,rfl,hn,h,hl,r⟩
 | dT ks =>
  obtain⟨rfl,hl⟩:=ha;show Rp K Hi n (.dT ks xs) G (.ref l);unfold Rp;exact⟨l,us,rfl,hn,h,hl,r⟩
theorem ah.freezeB(R:ah K Hi O τ σ H){i:Nat}{t:TV}{b0:Bd}{xs:List PV}{n:Bool}(e:τ[i]? =some t)(ht:t.ob=some (b0,xs,n)):∃O',ah K Hi O' (τ.set i (.frz (b0.pv xs) n)) σ H/\∀b∈O',b∈O:=by
 obtain⟨l,us,o,g1,g2,g3,g4,g5⟩:=R.obs i t b0 xs n e ht;refine⟨O.filter fun b=>decide (b≠l),?_,fun b hb=>(EW.mp hb).1⟩;have mem:∀b,b∈O.filter (fun b=>decide (b≠l))↔b∈O/\b≠l:=fun b=>by simp
 have hs:aC (aM H O) (aM H (O.filter fun b=>decide (b≠l))):=pX fun b hb=>((mem b).mp hb).1;have hd:aC (aM H O) (del (aM H (O.filter fun b=>decide (b≠l))) l):=fun b o z=>by
  unfold aM at z
  split at z
  ·cases z
  ·rename_i nb
   have ne:b≠l:=fun c=>nb (c▸g2);unfold del aM;rw[Dz ne,Dz fun c=>nb ((mem b).mp c).1];exact z
 have hl:aM H (O.filter fun b=>decide (b≠l)) l=some o:=by
  unfold aM;rw[Dz fun c=>((mem l).mp c).2 rfl];exact g3
 refine⟨R.same,fun b hb=>R.own b ((mem b).mp hb).1,fun j w m z=> ?_,fun j t2 b2 ys m z ht2=> ?_,fun a b t2 t3 x y c e1 h2 e2 h3 k1 k2=> ?_⟩
 ·rcases am z with⟨rfl,z'⟩|⟨ne,z'⟩
  ·cases z'
   exact⟨.ref l,g1,Rp.at (fun _=>(R.own l g2).1) hl g4 (g5.mono hd)⟩
  ·obtain⟨u,q1,q2⟩:=R.frz j w m z'
   exact⟨u,q1,q2.mono hs⟩
 ·rcases am z with⟨rfl,z'⟩|⟨ne,z'⟩
  ·subst z'
   cases ht2
  ·obtain⟨l2,ws,o2,q1,q2,q3,q4,q5⟩:=R.obs j t2 b2 ys m z' ht2
   exact⟨l2,ws,o2,q1,(mem l2).mpr ⟨q2,fun c=>by subst c;exact ne (R.dst i j _ _ _ _ l2 e ht z' ht2 g1 q1)⟩,q3,q4,q5.mono hs⟩
 ·rcases am e1 with⟨_,z⟩|⟨_,z1⟩
  ·subst z
   cases h2
  ·rcases am e2 with⟨_,z⟩|⟨_,z2⟩
   ·subst z
    cases h3
   ·exact R.dst a b t2 t3 x y c z1 h2 z2 h3 k1 k2
theorem ah.freeze(R:ah K Hi O τ σ H)(i:Nat):∃O',ah K Hi O' (kh τ i) σ H/\∀b∈O',b∈O:=by
 unfold kh;cases e:τ[i]? with
 | none=>exact⟨O,R,fun b hb=>hb⟩
 | some t =>
  cases t with
  | un=>exact⟨O,R,fun b hb=>hb⟩
  | frz v n=>exact⟨O,R,fun b hb=>hb⟩
  | own xs n=>exact R.freezeB e rfl
  | owd b xs n=>exact R.freezeB e rfl
theorem ah.freezes:∀{cap:List Nat}{O:List Addr}{τ:En},ah K Hi O τ σ H->∃O',ah K Hi O' (bF cap τ) σ H/\∀b∈O',b∈O
 | [],O,_,R=>⟨O,R,fun b hb=>hb⟩
 | i::cap,_,_,R=>by
  obtain⟨O',R',h'⟩:=R.freeze i;obtain⟨O2,R2,h2⟩:=ah.freezes (cap:=cap) R';exact⟨O2,R2,fun b hb=>h' b (h2 b hb)⟩
variable(K Hi)in
noncomputable def aZ(O:List Addr)(H H' :Hp):RV->V->Prop
 | .frz v n,u=>Rp K Hi n v (aM H' O) u
 | .bor v,u=>Rp K Hi false v H' u
 | .own xs n,u=>∃p us,u=.ref p/\H p=none/\H' p=some (.lst us)/\aF K Hi n xs (aM (del H' p) O) us
 | .owd b xs n,u=>∃p us o,u=.ref p/\H p=none/\H' p=some o/\At b us o/\aF K Hi n xs (aM (del H' p) O) us
theorem aZ.ext{H2:Hp}{r:RV}{u:V}(h:aZ K Hi O H H' r u)(s:aC H' H2):aZ K Hi O H H2 r u:=by
 cases r with
 | frz v n=>exact Rp.mono (aK s) h
 | bor v=>exact Rp.mono s h
 | own xs n =>
  obtain⟨p,us,e,h0,h1,h2⟩:=h;exact⟨p,us,e,h0,s _ _ h1,h2.mono (aK (de s))⟩
 | owd b xs n =>
  obtain⟨p,us,o,e,h0,h1,ha,h2⟩:=h;exact⟨p,us,o,e,h0,s _ _ h1,ha,h2.mono (aK (de s))⟩
theorem aZ.back{H0:Hp}{r:RV}{u:V}(h:aZ K Hi O H H' r u)(s:aC H0 H):aZ K Hi O H0 H' r u:=by
 cases r with
 | frz v n=>exact h
 | bor v=>exact h
 | own xs n =>
  obtain⟨p,us,e,h0,h1,h2⟩:=h;exact⟨p,us,e,s.free h0,h1,h2⟩
 | owd b xs n =>
  obtain⟨p,us,o,e,h0,h1,ha,h2⟩:=h;exact⟨p,us,o,e,s.free h0,h1,ha,h2⟩
theorem fL{p:Addr}:aM (del H' p) O=del (aM H' O) p:=by
 funext b
 unfold aM del;dsimp only
 split<;>split<;>(try rfl)<;>simp_all
theorem aZ.keep{r:RV}{u:V}{v:PV}{n:Bool}(R:ah K Hi O τ σ H)(h:aZ K Hi O H H' r u)(s:aC H H')(e:r.keep=some (v,n)):Rp K Hi n v (aM H' O) u:=by
 cases r with
 | frz w m =>
  cases e;exact h
 | bor w =>
  have e:(if imm w then some (w,true)else none)=some (v,n):=e
  split at e
  ·rename_i i
   cases e;exact Rp.imm i (R.ext s).tups h
  ·cases e
 | own xs m =>
  cases e;obtain⟨p,us,e,h0,h1,h2⟩:=h;have hl:aM H' O p=some (.lst us):=by
   unfold aM;rw[Dz fun z=> ?_]
   ·exact h1
   ·obtain⟨vs,e',_⟩:=(R.own p z).2
    rw[h0]at e';cases e'
  exact Rp.lst.mpr ⟨p,us,e,fun _=>⟨R.same.free h0,hl⟩,bJ.of hl,by rw[<- fL];exact h2⟩
 | owd b xs m =>
  cases e;obtain⟨p,us,o,e,h0,h1,ha,h2⟩:=h;subst e;have hl:aM H' O p=some o:=by
   unfold aM;rw[Dz fun z=> ?_]
   ·exact h1
   ·obtain⟨vs,e',_⟩:=(R.own p z).2
    rw[h0]at e';cases e'
  exact Rp.at (fun _=>R.same.free h0) hl ha (by rw[<- fL];exact h2)
theorem aZ.val{r:RV}{u:V}(R:ah K Hi O τ σ H)(h:aZ K Hi O H H' r u)(s:aC H H'):Rp K Hi false r.val H' u:=by
 cases r with
 | frz w m=>exact(Rp.mono aW h).weak
 | bor w=>exact h
 | own xs m=>exact(Rp.mono aW (h.keep R s rfl)).weak
 | owd b xs m=>exact(Rp.mono aW (h.keep R s rfl)).weak
theorem aZ.its{r:RV}{u:V}{xs:List PV}{n:Bool}(R:ah K Hi O τ σ H)(h:aZ K Hi O H H' r u)(s:aC H H')(e:r.its=some (xs,n)) :
  ∃p us,u=.ref p/\((bJ K H' p us/\∃ys,r.val=.lst ys)\/(cJ K H' p us/\∃ys,r.val=.tup ys))/\aF K Hi n xs (aM H' O) us:=by
 cases r with
 | frz w m =>
  cases w with
  | lst ys =>
   cases e;obtain⟨p,us,e,_,l,r⟩:=Rp.lst.mp h;exact⟨p,us,e,.inl ⟨(aW (O:=O)).seq l,_,rfl⟩,r.mono ay⟩
  | tup ys =>
   cases e;obtain⟨p,us,e,l,r⟩:=Rp.tup.mp h;exact⟨p,us,e,.inr ⟨(aW (O:=O)).tup l,_,rfl⟩,r⟩
  | _=>cases e
 | bor w =>
  cases w with
  | lst ys =>
   have e:(if imms ys then some (ys,true)else none)=some (xs,n):=e
   split at e
   ·rename_i i
    cases e;obtain⟨p,us,e,_,l,r⟩:=Rp.lst.mp h;exact⟨p,us,e,.inl ⟨l,_,rfl⟩,aF.imm i (R.ext s).tups (r.mono ay)⟩
   ·cases e
  | tup ys =>
   have e:(if imms ys then some (ys,true)else none)=some (xs,n):=e
   split at e
   ·rename_i i
    cases e;obtain⟨p,us,e,l,r⟩:=Rp.tup.mp h;exact⟨p,us,e,.inr ⟨l,_,rfl⟩,aF.imm i (R.ext s).tups r⟩
   ·cases e
  | _=>cases e
 | own ys m =>
  cases e;obtain⟨p,us,e,h0,h1,h2⟩:=h;exact⟨p,us,e,.inl ⟨bJ.of h1,_,rfl⟩,h2.mono (aK ay)⟩
 | owd b ys m=>cases e
end
end
section
variable{K:W.Frag}{Hi:Hp}{κ:Type}[DecidableEq κ]
theorem pA{n:Bool}{G:Hp}{k:κ}:∀{ks:List κ}{vs:List PV}{us:List V},aF K Hi n vs G us->ks.length=us.length->(ge ks vs k=none->dN (ks.zip us) k=none)/\∀e,ge ks vs k=some e->∃w,dN (ks.zip us) k=some w/\Rp K Hi n e G w
 | [],vs,us,r,hl=>by
  refine⟨fun _=>rfl,fun e h=> ?_⟩;unfold ge at h;cases h
 | k' ::ks,[],us,r,hl=>by
  unfold aF at r;subst r;cases hl
 | k' ::ks,v::vs,us,r,hl=>by
  unfold aF at r;obtain⟨u,ws,rfl,a,b⟩:=r;have hl:ks.length=ws.length:=by simpa using hl
  obtain⟨h1,h2⟩:=pA (k:=k) b hl;rw[Fe];unfold ge
  by_cases e:k' =k
  ·rw[D3 e,eX (p:=(k',u)) e]
   exact⟨fun z=>(by cases z),fun x z=>⟨u,rfl,by cases z;exact a⟩⟩
  ·rw[Dz e,eY (p:=(k',u)) e]
   exact⟨h1,h2⟩
end
end IR
namespace IR
open PySem
structure Ct where
 N:List Str
 S:List (Str×NameKind)
 F:List (Str×Nat)
 G:List (Str×PV)
 B:List Str
 M:List Nat
noncomputable def slot:List Str->Str->Option Nat
 | [],_=>none
 | y::ys,x=>if y==x then some 0 else(slot ys x).map (·+1)
theorem di:∀{N:List Str}{x:Str}{i:Nat},slot N x=some i->N[i]? =some x
 | [],_,_,h=>by cases h
 | y::ys,x,i,h=>by
  unfold slot at h
  split at h
  ·rename_i e
   cases h;simp[EN e]
  ·cases e:slot ys x with
   | none=>rw[e]at h;cases h
   | some j =>
    rw[e]at h;cases h
    simpa using di e
noncomputable def zC(S:List (Str×NameKind))(x:Str):Bool:=S.lookup x==some .local||S.lookup x==some .cell||S.lookup x==some .free
noncomputable def uH(x:Str):Bool:=x==("__debug__":Str)||x==("__classdict__":Str)||x==("__name__":Str)
noncomputable def bY(ct:Ct)(x:Str):IE :=
 if uH x then .never else if zC ct.S x then(match slot ct.N x with
  | some i=>.var i
  | none=>.never)else if ct.S.lookup x==some .globalImplicit then(match ct.G.lookup x with
   | some v=>.con v
   | none=>.never)else .never
noncomputable def cq:Expr->Bool
 | .Set .. =>true
 | _=>false
noncomputable def kW:Expr->Bool
 | .Slice .. =>true
 | _=>false
noncomputable def aS:Expr->Bool
 | .Starred .. =>true
 | _=>false
noncomputable def plainB:Expr->Bool
 | .Name .. =>true
 | .Constant .. =>true
 | _=>false
noncomputable def j8:Const->IE
 | .int i=>.con (.int i)
 | .bool b=>.con (.bl b)
 | .str z=>.con (.str z)
 | .none=>.con .non
 | _=>.never
noncomputable def iY(op:BoolOp):List IE->IE
 | []=>.never
 | [a]=>a
 | a::b::r=>match op with
  | .And=>.and a (iY op (b::r))
  | .Or=>.or a (iY op (b::r))
noncomputable def iX(op:BoolOp):List IC->IC
 | []=>.val .never
 | [a]=>a
 | a::b::r=>match op with
  | .And=>.and a (iX op (b::r))
  | .Or=>.or a (iX op (b::r))
noncomputable def nH(x:Str)(k:Nat):Option Bf :=
 if x==("len":Str)&&k==1 then some .len else if x==("int":Str)&&k==1 then some .int else if x==("list":Str)&&k==1 then some .list else if x==("tuple":Str)&&k==1 then some .tuple
 else if x==("all":Str)&&k==1 then some .all else if x==("min":Str)&&k==2 then some .min else if x==("max":Str)&&k==2 then some .max else if x==("abs":Str)&&k==1 then some .abs
 else if x==("any":Str)&&k==1 then some .any else if x==("sum":Str)&&k==1 then some .sum else if x==("sorted":Str)&&k==1 then some .sorted else none
noncomputable def il(x:Str)(k:Nat):Option Bf:=nH x k
noncomputable def own(ct:Ct)(x:Str):Bool:=ct.B.contains x&&ct.S.lookup x==some .globalImplicit
noncomputable def ku:Expr->Option (Str×List Expr)
 | .Call (.Name x _) es [] _=>some (x,es)
 | _=>none
noncomputable def jS(S names:List (Str×NameKind)):List (Str×NameKind):=names.map fun(n,k)=>if(k== .free&&true&&S.lookup n==some .cell)then(n,.cell)else(n,k)
noncomputable def frees(scope:Scope):List Str:=(scope.names.filter fun y=>y.2== .free).map (·.1)
noncomputable def slots(N:List Str):List Str->Option (List Nat)
 | []=>some []
 | x::xs=>(slot N x).bind fun i=>(slots N xs).map (i::·)
noncomputable def qo(ct:Ct)(t:Str)(scope:Scope):Bool :=
 scope.kind== .function&&(scope.names.all fun y=> !(y.2== .cell)||scope.names.lookup y.1==some .cell)&&(scope.names.all fun y=> !(y.2== .local)||scope.names.lookup y.1==some .local) &&
 (scope.names.all fun y=> !(y.2== .free)||(ct.S.lookup y.1==some .cell||ct.S.lookup y.1==some .free))&&decide (t::frees scope).Nodup&&(scope.names.lookup t==some .local||scope.names.lookup t==some .cell) &&
 (frees scope).all fun x=>scope.names.lookup x==some .free
noncomputable def blk(ct:Ct)(t:Str)(scope:Scope):Ct:=⟨t::frees scope,jS ct.S scope.names,ct.F,ct.G,ct.B,[]⟩
noncomputable def fJ(ct:Ct)(t t2:Str)(scope:Scope):Bool :=
 scope.kind== .function&&(scope.names.all fun y=> !(y.2== .cell)||scope.names.lookup y.1==some .cell)&&(scope.names.all fun y=> !(y.2== .local)||scope.names.lookup y.1==some .local) &&
 (scope.names.all fun y=> !(y.2== .free)||(ct.S.lookup y.1==some .cell||ct.S.lookup y.1==some .free))&&decide (t::t2::frees scope).Nodup&&(scope.names.lookup t==some .local||scope.names.lookup t==some .cell)&&(scope.names.lookup t2==some .local||scope.names.lookup t2==some .cell) &&
 (frees scope).all fun x=>scope.names.lookup x==some .free
noncomputable def blk2(ct:Ct)(t t2:Str)(scope:Scope):Ct:=⟨t::t2::frees scope,jS ct.S scope.names,ct.F,ct.G,ct.B,[]⟩
noncomputable def qi:List IE->vg
 | []=>.nil
 | e::es=>.cons e (qi es)
noncomputable def mJ:Expr->Option Str
 | .Name x _=>some x
 | _=>none
noncomputable def jY:Expr->Option (Str×Str)
 | .Tuple es _ _=>(match es with
  | [a,b]=>(mJ a).bind fun x=>(mJ b).map fun y=>(x,y)
  | _=>none)
 | _=>none
noncomputable def yV:Expr->Bool
 | .Subscript .. =>true
 | _=>false
noncomputable def km:Expr->Option Expr
 | .Call f es ks cp=>if es.isEmpty&&ks.isEmpty then(match f with
  | .Attribute o m ap=>if m==("items":Str)&&ap.endLine==cp.line&&(yV o||plainB o)then some o else none
  | _=>none)else none
 | _=>none
noncomputable def pW:IE->Nat->Bool
 | .var i,j=>i==j
 | _,_=>false
theorem mI{e:Expr}{x:Str}(h:mJ e=some x):∃p,e=.Name x p:=by
 unfold mJ at h
 split at h
 ·cases h;exact⟨_,rfl⟩
 ·cases h
theorem wy{a b:Expr}{q:Str×Str}(h:((mJ a).bind fun x=>(mJ b).map fun y=>(x,y))=some q):∃p p2,a=.Name q.1 p/\b=.Name q.2 p2:=by
 cases ha:mJ a with
 | none=>rw[ha]at h;cases h
 | some x =>
  cases hb:mJ b with
  | none=>rw[ha,hb]at h;cases h
  | some y =>
   rw[ha,hb]at h;cases h;obtain⟨p,rfl⟩:=mI ha;obtain⟨p2,rfl⟩:=mI hb;exact⟨p,p2,rfl,rfl⟩
theorem jX{e:Expr}{q:Str×Str}(h:jY e=some q):∃p p2 k p3,e=.Tuple [.Name q.1 p,.Name q.2 p2] k p3:=by
 unfold jY at h
 split at h
 ·split at h
  ·obtain⟨p,p2,rfl,rfl⟩:=wy h
   exact⟨p,p2,_,_,rfl⟩
  ·cases h
 ·cases h
theorem oS{e d:Expr}(h:km e=some d):∃ap cp,e=.Call (.Attribute d "items" ap) [] [] cp/\(ap.endLine==cp.line)=true/\(yV d||plainB d)=true:=by
 unfold km at h
 split at h
 ·rename_i f es ks cp
  split at h
  ·rename_i c
   rw[Du,List.isEmpty_iff,List.isEmpty_iff]at c;obtain⟨rfl,rfl⟩:=c
   split at h
   ·split at h
    ·rename_i c
     simp only[Du]at c;cases h;obtain⟨⟨c1,c2⟩,c3⟩:=c;have c1:=EN c1;subst c1;exact⟨_,_,rfl,c2,c3⟩
    ·cases h
   ·cases h
  ·cases h
 ·cases h
theorem jg{e:IE}{j:Nat}(h:pW e j=true):e=.var j:=by
 unfold pW at h
 split at h
 ·have h:=EN h
  subst h;rfl
 ·cases h
noncomputable def pF(f:Str)(ct:Ct)(elt:Expr)(gs:List Comprehension)(scope:Scope):Option Expr:=if f==("sorted":Str)then(match gs with
 | [g]=>(jY g.target).bind fun q=>(km g.iter).bind fun d=>(jY elt).bind fun z =>
   if plainB d&&g.ifs.isEmpty&&z.1==q.2&&z.2==q.1&&g.is_async==0&&fJ ct q.1 q.2 scope&&decide (frees scope=[])&&pW (bY (blk2 ct q.1 q.2 scope) q.1) 0&&pW (bY (blk2 ct q.1 q.2 scope) q.2) 1 then some d else none
 | _=>none)else none
theorem qH{f:Str}{ct:Ct}{elt:Expr}{gs:List Comprehension}{scope:Scope}{d:Expr}(h:pF f ct elt gs scope=some d):f=("sorted":Str)/\plainB d=true/\∃x y p1 p2 k p3 ap cp p4 p5 k2 p6,elt=.Tuple [.Name y p4,.Name x p5] k2 p6 /\
  gs=[⟨.Tuple [.Name x p1,.Name y p2] k p3,.Call (.Attribute d "items" ap) [] [] cp,[],0⟩]/\(ap.endLine==cp.line)=true /\
  fJ ct x y scope=true/\frees scope=[]/\bY (blk2 ct x y scope) x=.var 0/\bY (blk2 ct x y scope) y=.var 1:=by
 unfold pF at h
 split at h
 ·rename_i hf
  split at h
  ·rename_i g
   obtain⟨tg,it,ifs,as⟩:=g;dsimp only at h;cases h1:jY tg with
   | none=>rw[h1]at h;cases h
   | some q =>
    cases h2:km it with
    | none=>rw[h1,h2]at h;cases h
    | some d' =>
     cases h3:jY elt with
     | none=>rw[h1,h2,h3]at h;cases h
     | some z =>
      rw[h1,h2,h3]at h;simp only[Ei]at h
      split at h
      ·rename_i c
       cases h;simp only[Du]at c;obtain⟨⟨⟨⟨⟨⟨⟨⟨c0,c1⟩,c2⟩,c3⟩,c4⟩,c5⟩,c6⟩,c7⟩,c8⟩:=c;obtain⟨q1,q2⟩:=q;obtain⟨z1,z2⟩:=z;have d1:z1=q2:=EN c2;have d2:z2=q1:=EN c3;have d3:as=0:=EN c4;have d4:ifs=[]:=List.isEmpty_iff.mp c1;subst d1;subst d2;subst d3;subst d4;obtain⟨p1,p2,k,p3,rfl⟩:=jX h1;obtain⟨ap,cp,rfl,e1,e2⟩:=oS h2;obtain⟨p4,p5,k2,p6,rfl⟩:=jX h3;exact⟨EN hf,c0,_,_,_,_,_,_,_,_,_,_,_,_,rfl,rfl,e1,c5,Eg c6,jg c7,jg c8⟩
      ·cases h
  ·cases h
 ·cases h
mutual
noncomputable def ai:Nat->Ct->Expr->IE
 | 0,_,_=>.never
 | n+1,ct,e=>match e with
  | .Constant c _ _=>j8 c
  | .Name x _=>bY ct x
  | .BinOp a op b _=>.bin op (ai n ct a) (ai n ct b)
  | .UnaryOp op a _=>match op with
   | .USub=>.neg (ai n ct a)
   | .Not=>.not (ai n ct a)
   | _=>.never
  | .Compare a ops cs _=>match ops,cs with
   | [op],[b]=>if cq b then .never else .cmp op (ai n ct a) (ai n ct b)
   | _,_=>.never
  | .BoolOp op vs _=>if vs.length<2 then .never else iY op (vs.map (ai n ct))
  | .IfExp c a b _=>.ite (jN n ct c) (ai n ct a) (ai n ct b)
  | .List es _=>.lst (dO n ct es)
  | .Tuple es _ _=>.tup (dO n ct es)
  | .Dict ks vs _=>match ks,vs with
   | [],[]=>.dnew
   | [some (.Constant c _ _)],[v]=>match c with
    | .int i=>.dlit (.inl i) (ai n ct v)
    | .str z=>.dlit (.inr z) (ai n ct v)
    | _=>.never
   | _,_=>.never
  | .Subscript a i _=>match i with
   | .Slice lo hi st _=>match st with
    | none=>.sl (ai n ct a) (yS n ct lo) (yS n ct hi)
    | some st=>match lo,hi,st with
     | none,none,.UnaryOp .USub (.Constant (.int 1) _ _) _=>.rev (ai n ct a)
     | _,_,_=>.never
   | i=>.ix (ai n ct a) (ai n ct i)
  | .Call f es ks cp=>match ks with
   | []=>match f with
    | .Name x _=>ff n ct x es
    | .Attribute o m ap=>if ap.endLine==cp.line then jM n ct o m es else .never
    | _=>.never
   | _=>.never
  | .ListComp elt gs scope _=>match gs with
   | [⟨.Name t _,iter,ifs,0⟩]=>if qo ct t scope then(match slots ct.N (frees scope)with
    | some caps=>.lc (ai n (blk ct t scope) elt) (sW n ct false iter) (match ifs with
     | []=>.no
     | [c]=>.yes (jN n (blk ct t scope) c)
     | _=>.yes (.val .never)) caps
    | none=>.never)else .never
   | [⟨.Tuple [.Name t _,.Name t2 _] _ _,iter,ifs,0⟩]=>if fJ ct t t2 scope then(match slots ct.N (frees scope)with
    | some caps=>.lc2 (ai n (blk2 ct t t2 scope) elt) (sW n ct true iter) (match ifs with
     | []=>.no
     | [c]=>.yes (jN n (blk2 ct t t2 scope) c)
     | _=>.yes (.val .never)) caps
    | none=>.never)else .never
   | _=>.never
  | _=>.never
noncomputable def dO:Nat->Ct->List Expr->vg
 | 0,_,_=>.cons .never .nil
 | n+1,ct,es=>qi (es.map fun e=>if aS e then .never else ai n ct e)
noncomputable def yS:Nat->Ct->Option Expr->IO
 | 0,_,_=>.yes .never
 | n+1,ct,e=>match e with
  | none=>.no
  | some e=>.yes (ai n ct e)
noncomputable def jN:Nat->Ct->Expr->IC
 | 0,_,_=>.val .never
 | n+1,ct,e=>match e with
  | .UnaryOp op a p=>match op with
   | .Not=>.not (jN n ct a)
   | op=>.val (ai n ct (.UnaryOp op a p))
  | .BoolOp op vs _=>iX op (vs.map (jN n ct))
  | .IfExp _ _ _ _=>.val .never
  | e=>.val (ai n ct e)
noncomputable def ff:Nat->Ct->Str->List Expr->IE
 | 0,_,_,_=>.never
 | n+1,ct,x,es=>if uH x then .never else if ct.S.lookup x==some .globalImplicit then(match ct.F.lookup x with
  | some f=>match es with
   | []=>.never
   | es=>.call f (dO n ct es)
  | none=>if ct.B.contains x then(if x==("isinstance":Str)then .never else match es with
     | [.Call (.Attribute o m ap) [] [] cp]=>if x==("sum":Str)&&m==("values":Str)&&plainB o&&ap.endLine==cp.line then .bf .sumv (.cons (ai n ct o) .nil)else if x==("list":Str)&&m==("values":Str)&&plainB o&&ap.endLine==cp.line then .bf .lvals (.cons (ai n ct o) .nil)else(match il x es.length with
      | some f=>.bf f (dO n ct es)
      | none=>.never)
     | [.ListComp elt gs scope _]=>(match pF x ct elt gs scope with
      | some d=>.bf .sorted (.cons (.lcs (ai n ct d)) .nil)
      | none=>match il x es.length with
       | some f=>.bf f (dO n ct es)
       | none=>.never)
     | es=>match il x es.length with
      | some f=>.bf f (dO n ct es)
      | none=>.never)else .never)else .never
noncomputable def jM:Nat->Ct->Expr->Str->List Expr->IE
 | 0,_,_,_,_=>.never
 | n+1,ct,o,m,es=>if plainB o then(match es with
  | [a]=>if aS a then .never else if m==("join":Str)then .mth .join (ai n ct o) (.cons (ai n ct a) .nil)else .never
  | _=>.never)else .never
noncomputable def sW:Nat->Ct->Bool->Expr->IT
 | 0,_,_,_=>.never
 | n+1,ct,tp,e=>if cq e then .never else match ku e with
  | some (x,es)=>if x==("range":Str)then(if own ct x then .rng (dO n ct es)else .never)else if x==("zip":Str)then .never else if x==("enumerate":Str)then(match es with
    | [a]=>if aS a|| !tp|| !own ct x then .never else .enum (ai n ct a)
    | _=>.never)else .seq (ai n ct e)
  | none=>.seq (ai n ct e)
end
noncomputable def jE:Nat->Ct->Expr->List Nat
 | 0,_,_=>[]
 | n+1,ct,e=>match e with
  | .Name x _=>(slot ct.N x).toList
  | .List es _=>es.flatMap (jE n ct)
  | .Tuple es _ _=>es.flatMap (jE n ct)
  | .IfExp _ a b _=>jE n ct a++jE n ct b
  | _=>[]
noncomputable def jD:Nat->Ct->Expr->List Nat
 | 0,_,_=>[]
 | n+1,ct,e=>match e with
  | .Name x _=>(slot ct.N x).toList
  | .List es _=>es.flatMap (jD n ct)
  | .Tuple es _ _=>es.flatMap (jD n ct)
  | .BinOp a _ b _=>jD n ct a++jD n ct b
  | .IfExp _ a b _=>jD n ct a++jD n ct b
  | .Call (.Name x _) es _ _=>if x==("tuple":Str)||x==("list":Str)||x==("sorted":Str)then es.flatMap (jD n ct)else[]
  | .ListComp _ gs _ _=>gs.flatMap fun g=>jD n ct g.iter
  | _=>[]
noncomputable def DG(ct:Ct)(x:Str)(e:Expr):List Nat:=match e with
 | .BinOp (.Name y _) .Add _ _=>if y==x then(slot ct.N x).toList else[]
 | _=>[]
noncomputable def DH(n:Nat)(ct:Ct)(e:Expr):List Nat:=match ku e with
 | some (x,es)=>if x==("zip":Str)||x==("enumerate":Str)||x==("reversed":Str)then es.flatMap (jE n ct)else[]
 | none=>jE n ct e
noncomputable def loc(ct:Ct)(x:Str):Option Nat:=if(ct.S.lookup x==some .local||ct.S.lookup x==some .cell)&& !uH x then slot ct.N x else none
noncomputable def ub:Expr->Bool
 | .ListComp .. =>true
 | .SetComp .. =>true
 | .DictComp .. =>true
 | _=>false
noncomputable def locs(ct:Ct):List Expr->Option (List Nat)
 | []=>some []
 | .Name x _::es=>(loc ct x).bind fun i=>(locs ct es).map (i::·)
 | _::_=>none
noncomputable def sV(ct:Ct):Expr->Option (List Nat×Bool)
 | .Name x _=>(loc ct x).map fun i=>([i],true)
 | .Tuple es _ _=>(locs ct es).map fun is=>(is,false)
 | _=>none
mutual
noncomputable def nY:Nat->Ct->Stmt->IS
 | 0,_,_=>.never
 | n+1,ct,s=>match s with
  | .Return v _=>match v with
   | some e=>.ret (jD n ct e) (ai n ct e)
   | none=>.retN
  | .Assign ts e _=>match ts with
   | [.Name x _]=>match loc ct x with
    | some i=>.asg i (ct.M.contains i) (DG ct x e++jE n ct e) (ai n ct e)
    | none=>.never
   | _=>.never
  | .If c a b _=>.ife (jN n ct c) (bB n ct a) (bB n ct b)
  | .For tg it body els _=>match els with
   | []=>match sV ct tg with
    | some (is,one)=>.forr is one (DH n ct it) (sW n ct (!one) it) (bB n ct body)
    | none=>.never
   | _=>.never
  | .While c body els _=>match els with
   | []=>.whil (jN n ct c) (bB n ct body)
   | _=>.never
  | .Pass _=>.pass
  | .Break _=>.brk
  | .Continue _=>.cont
  | .Expr e _=>match e with
   | .Call (.Attribute (.Name x _) m ap) es [] cp=>if ap.endLine==cp.line then(match loc ct x with
    | some i=>(match es with
     | [a]=>if aS a then .never else if m==("append":Str)then .app i (jE n ct a) (ai n ct a)else .never
     | _=>.never)
    | none=>.never)else .never
   | _=>.never
  | .AugAssign t op e _=>match t with
   | .Name x _=>match loc ct x with
    | some i=>.aug i op (ai n ct e)
    | none=>.never
   | _=>.never
  | _=>.never
noncomputable def bB:Nat->Ct->List Stmt->rS
 | 0,_,_=>.cons .never .nil
 | n+1,ct,ss=>match ss with
  | []=>.nil
  | s::ss=>.cons (nY n ct s) (bB n ct ss)
end
section
set_option autoImplicit true
set_option relaxedAutoImplicit true
variable{n:Nat}{ct:Ct}
theorem lV:ai 0 w0 w1=.never:=rfl
theorem lQ:ai (n+1) ct (.Constant c w1 w2)=(j8 c):=rfl
theorem lL:ai (n+1) ct (.Name x w1)=(bY ct x):=rfl
theorem lU:ai (n+1) ct (.BinOp a op b w1)=(.bin op (ai n ct a) (ai n ct b)):=rfl
theorem lI:ai (n+1) ct (.UnaryOp op a w1)=(match op with
   | .USub=>.neg (ai n ct a)
   | .Not=>.not (ai n ct a)
   | _=>.never):=rfl
theorem lR:ai (n+1) ct (.Compare a ops cs w1)=(match ops,cs with
   | [op],[b]=>if cq b then .never else .cmp op (ai n ct a) (ai n ct b)
   | _,_=>.never):=rfl
theorem lT:ai (n+1) ct (.BoolOp op vs w1)=(if vs.length<2 then .never else iY op (vs.map (ai n ct))):=rfl
theorem lO:ai (n+1) ct (.IfExp c a b w1)=(.ite (jN n ct c) (ai n ct a) (ai n ct b)):=rfl
theorem lN:ai (n+1) ct (.List es w1)=(.lst (dO n ct es)):=rfl
theorem lJ:ai (n+1) ct (.Tuple es w1 w2)=(.tup (dO n ct es)):=rfl
theorem lP:ai (n+1) ct (.Dict ks vs w1)=(match ks,vs with
   | [],[]=>.dnew
   | [some (.Constant c _ _)],[v]=>match c with
    | .int i=>.dlit (.inl i) (ai n ct v)
    | .str z=>.dlit (.inr z) (ai n ct v)
    | _=>.never
   | _,_=>.never):=rfl
theorem lK:ai (n+1) ct (.Subscript a i w1)=(match i with
   | .Slice lo hi st _=>match st with
    | none=>.sl (ai n ct a) (yS n ct lo) (yS n ct hi)
    | some st=>match lo,hi,st with
     | none,none,.UnaryOp .USub (.Constant (.int 1) _ _) _=>.rev (ai n ct a)
     | _,_,_=>.never
   | i=>.ix (ai n ct a) (ai n ct i)):=rfl
theorem lS:ai (n+1) ct (.Call f es ks cp)=(match ks with
   | []=>match f with
    | .Name x _=>ff n ct x es
    | .Attribute o m ap=>if ap.endLine==cp.line then jM n ct o m es else .never
    | _=>.never
   | _=>.never):=rfl
theorem lM:ai (n+1) ct (.ListComp elt gs scope w1)=(match gs with
   | [⟨.Name t _,iter,ifs,0⟩]=>if qo ct t scope then(match slots ct.N (frees scope)with
    | some caps=>.lc (ai n (blk ct t scope) elt) (sW n ct false iter) (match ifs with
     | []=>.no
     | [c]=>.yes (jN n (blk ct t scope) c)
     | _=>.yes (.val .never)) caps
    | none=>.never)else .never
   | [⟨.Tuple [.Name t _,.Name t2 _] _ _,iter,ifs,0⟩]=>if fJ ct t t2 scope then(match slots ct.N (frees scope)with
    | some caps=>.lc2 (ai n (blk2 ct t t2 scope) elt) (sW n ct true iter) (match ifs with
     | []=>.no
     | [c]=>.yes (jN n (blk2 ct t t2 scope) c)
     | _=>.yes (.val .never)) caps
    | none=>.never)else .never
   | _=>.never):=rfl
theorem z21:dO 0 w0 w1=.cons .never .nil:=rfl
theorem z22:dO (n+1) ct es=(qi (es.map fun e=>if aS e then .never else ai n ct e)):=rfl
theorem z25:yS 0 w0 w1=.yes .never:=rfl
theorem z26:yS (n+1) ct (none)=(.no):=rfl
theorem z27:yS (n+1) ct (some e)=(.yes (ai n ct e)):=rfl
theorem B1:jN 0 w0 w1=.val .never:=rfl
theorem Bx:jN (n+1) ct (.UnaryOp op a p)=(match op with
   | .Not=>.not (jN n ct a)
   | op=>.val (ai n ct (.UnaryOp op a p))):=rfl
theorem Bz:jN (n+1) ct (.BoolOp op vs w1)=(iX op (vs.map (jN n ct))):=rfl
theorem By:jN (n+1) ct (.IfExp w1 w2 w3 w4)=(.val .never):=rfl
theorem z1h:ff 0 w0 w1 w2=.never:=rfl
theorem z1i:ff (n+1) ct x es=(if uH x then .never else if ct.S.lookup x==some .globalImplicit then(match ct.F.lookup x with
  | some f=>match es with
   | []=>.never
   | es=>.call f (dO n ct es)
  | none=>if ct.B.contains x then(if x==("isinstance":Str)then .never else match es with
     | [.Call (.Attribute o m ap) [] [] cp]=>if x==("sum":Str)&&m==("values":Str)&&plainB o&&ap.endLine==cp.line then .bf .sumv (.cons (ai n ct o) .nil)else if x==("list":Str)&&m==("values":Str)&&plainB o&&ap.endLine==cp.line then .bf .lvals (.cons (ai n ct o) .nil)else(match il x es.length with
      | some f=>.bf f (dO n ct es)
      | none=>.never)
     | [.ListComp elt gs scope _]=>(match pF x ct elt gs scope with
      | some d=>.bf .sorted (.cons (.lcs (ai n ct d)) .nil)
      | none=>match il x es.length with
       | some f=>.bf f (dO n ct es)
       | none=>.never)
     | es=>match il x es.length with
      | some f=>.bf f (dO n ct es)
      | none=>.never)else .never)else .never):=rfl
theorem z23:jM 0 w0 w1 w2 w3=.never:=rfl
theorem z24:jM (n+1) ct o m es=(if plainB o then(match es with
  | [a]=>if aS a then .never else if m==("join":Str)then .mth .join (ai n ct o) (.cons (ai n ct a) .nil)else .never
  | _=>.never)else .never):=rfl
theorem z2m:sW 0 w0 w1 w2=.never:=rfl
theorem z2n:sW (n+1) ct tp e=(if cq e then .never else match ku e with
  | some (x,es)=>if x==("range":Str)then(if own ct x then .rng (dO n ct es)else .never)else if x==("zip":Str)then .never else if x==("enumerate":Str)then(match es with
    | [a]=>if aS a|| !tp|| !own ct x then .never else .enum (ai n ct a)
    | _=>.never)else .seq (ai n ct e)
  | none=>.seq (ai n ct e)):=rfl
theorem sA:nY 0 w0 w1=.never:=rfl
theorem rY:nY (n+1) ct (.Return v w1)=(match v with
   | some e=>.ret (jD n ct e) (ai n ct e)
   | none=>.retN):=rfl
theorem rq:nY (n+1) ct (.Assign ts e w1)=(match ts with
   | [.Name x _]=>match loc ct x with
    | some i=>.asg i (ct.M.contains i) (DG ct x e++jE n ct e) (ai n ct e)
    | none=>.never
   | _=>.never):=rfl
theorem re:nY (n+1) ct (.If c a b w1)=(.ife (jN n ct c) (bB n ct a) (bB n ct b)):=rfl
theorem rf:nY (n+1) ct (.For tg it body els w1)=(match els with
   | []=>match sV ct tg with
    | some (is,one)=>.forr is one (DH n ct it) (sW n ct (!one) it) (bB n ct body)
    | none=>.never
   | _=>.never):=rfl
theorem rX:nY (n+1) ct (.While c body els w1)=(match els with
   | []=>.whil (jN n ct c) (bB n ct body)
   | _=>.never):=rfl
theorem rZ:nY (n+1) ct (.Pass w1)=(.pass):=rfl
theorem ri:nY (n+1) ct (.Break w1)=(.brk):=rfl
theorem rh:nY (n+1) ct (.Continue w1)=(.cont):=rfl
theorem rg:nY (n+1) ct (.Expr e w1)=(match e with
   | .Call (.Attribute (.Name x _) m ap) es [] cp=>if ap.endLine==cp.line then(match loc ct x with
    | some i=>(match es with
     | [a]=>if aS a then .never else if m==("append":Str)then .app i (jE n ct a) (ai n ct a)else .never
     | _=>.never)
    | none=>.never)else .never
   | _=>.never):=rfl
theorem rj:nY (n+1) ct (.AugAssign t op e w1)=(match t with
   | .Name x _=>match loc ct x with
    | some i=>.aug i op (ai n ct e)
    | none=>.never
   | _=>.never):=rfl
theorem z28:bB 0 w0 w1=.cons .never .nil:=rfl
theorem z2a:bB (n+1) ct ([])=(.nil):=rfl
theorem z29:bB (n+1) ct (s::ss)=(.cons (nY n ct s) (bB n ct ss)):=rfl
end
end IR
namespace L2
open PySem PySem.Spec PyProof.Rows
section
variable{X:Cx}
end
end L2
namespace IR
open PySem PySem.Spec PyProof.Rows L2
noncomputable abbrev WE(X:Cx)(e:Expr)(σ:L2.St)(H:Hp)(Q:VK):Prop:=∀(pins:List (Addr×Obj))(s:Shared),Inv X pins σ H s->wpAny (model X.prog X.w) X.A (eval e X.env) (EP X pins σ Q) X.xe s
noncomputable abbrev WT(X:Cx)(e:Expr)(σ:L2.St)(H:Hp)(Q:Bool->Hp->Prop):Prop:=∀(pins:List (Addr×Obj))(s:Shared),Inv X pins σ H s->wpAny (model X.prog X.w) X.A (isTrue e X.env (eval e X.env)) (TP X pins σ Q) X.xe s
noncomputable abbrev WA(X:Cx)(es:List Expr)(σ:L2.St)(H:Hp)(Q:List V->Hp->Prop):Prop:=∀(pos:Pos)(pins:List (Addr×Obj))(s:Shared),Inv X pins σ H s->wpAny (model X.prog X.w) X.A (spliced (backTo pos (starEach es X.env))) (AP X pins σ Q) X.xe s
theorem ae{X:Cx}{e:Expr}:PE X e (fun σ H Q=>WE X e σ H Q):=fun pins s σ H Q I h=>h pins s I
theorem i9{X:Cx}{e:Expr}:PT X e (fun σ H Q=>WT X e σ H Q):=fun pins s σ H Q I h=>h pins s I
theorem n8{X:Cx}{e:List Expr}:PA X e (fun σ H Q=>WA X e σ H Q):=fun pos pins s σ H Q I h=>h pos pins s I
theorem we{X:Cx}{e:Expr}{t:TE}{σ:L2.St}{H:Hp}{Q:VK}(h:PE X e t)(q:t σ H Q):WE X e σ H Q:=fun pins s I=>h pins s σ H Q I q
theorem wt{X:Cx}{e:Expr}{t:TT}{σ:L2.St}{H:Hp}{Q:Bool->Hp->Prop}(h:PT X e t)(q:t σ H Q):WT X e σ H Q:=fun pins s I=>h pins s σ H Q I q
theorem wa{X:Cx}{e:List Expr}{t:TA}{σ:L2.St}{H:Hp}{Q:List V->Hp->Prop}(h:PA X e t)(q:t σ H Q):WA X e σ H Q:=fun pos pins s I=>h pos pins s σ H Q I q
noncomputable def ve(K:W.Frag)(m:List PV->Option PV):Sp:=fun vs H Q _=>∃pvs r,aF K H false pvs H vs/\m pvs=some r/\∀u H',aC H H' ->Rp K H true r H' u->Q u H'
structure bQ(cd:Nat->List PV->Option PV)(X:Cx)(ct:Ct):Prop where
 N:X.N=ct.N
 nd:ct.N.Nodup
 S:X.env.scope.names=ct.S
 kind:X.env.scope.kind=.function
 calm:X.calm=true
 glob:∀x v,ct.G.lookup x=some v->∃u w,X.mg x=some u/\RelV w u/\∀Hi n H,Rp X.K Hi n v H w
 bl:∀x,ct.B.contains x=true->X.mg x=none
 fns:∀x f,ct.F.lookup x=some f->∃k a fd ps,bP X.prog X.w X.K X.mg X.base jK k a fd ps (ve X.K (cd f))/\dI k X.A/\X.mg x=some (.ref a)/\W.keepIn X.K (.ref a)=true/\Binds X.K fd ps []
 xe:PassesOwn (model X.prog X.w) X.A X.env X.xe
 un:X.A.units+64<cLine
section
variable{X:Cx}{Hi:Hp}{τ:En}
variable(X Hi τ)in
noncomputable def aH(e:Expr)(r:RV):Prop:=∀(O:List Addr)(σ:L2.St)(H:Hp)(Q:VK),ah X.K Hi O τ σ H->(∀u H',aC H H' ->aZ X.K Hi O H H' r u->Q u H')->WE X e σ H Q
variable(X Hi τ)in
noncomputable def dh(e:Expr)(b:Bool):Prop:=∀(O:List Addr)(σ:L2.St)(H:Hp)(Q:Bool->Hp->Prop),ah X.K Hi O τ σ H->(∀H',aC H H' ->Q b H')->WT X e σ H Q
variable(X Hi)in
noncomputable def ba(O:List Addr)(H H' :Hp):List RV->List V->Prop
 | [],us=>us=[]
 | r::rs,us=>∃u vs,us=u::vs/\aZ X.K Hi O H H' r u/\ba O H H' rs vs
variable(X Hi τ)in
noncomputable def lC(es:List Expr)(rs:List RV):Prop:=∀(O:List Addr)(σ:L2.St)(H:Hp)(Q:List V->Hp->Prop),ah X.K Hi O τ σ H->(∀us H',aC H H' ->ba X Hi O H H' rs us->Q us H')->WA X es σ H Q
theorem dS:sizeLine=16777216:=Ej
theorem ba.ext{O:List Addr}{H H' H2:Hp}(s:aC H' H2):∀{rs:List RV}{us:List V},ba X Hi O H H' rs us->ba X Hi O H H2 rs us
 | [],_,h=>h
 | r::rs,_,h=>by
  obtain⟨u,vs,e,a,b⟩:=h;exact⟨u,vs,e,a.ext s,ba.ext s b⟩
theorem ba.back{O:List Addr}{H0 H H' :Hp}(s:aC H0 H):∀{rs:List RV}{us:List V},ba X Hi O H H' rs us->ba X Hi O H0 H' rs us
 | [],_,h=>h
 | r::rs,_,h=>by
  obtain⟨u,vs,e,a,b⟩:=h;exact⟨u,vs,e,a.back s,ba.back s b⟩
theorem ba.vals{O:List Addr}{σ:L2.St}{H H' :Hp}(R:ah X.K Hi O τ σ H)(s:aC H H'):∀{rs:List RV}{us:List V},ba X Hi O H H' rs us->aF X.K Hi false (rs.map RV.val) H' us
 | [],_,h=>by cases h;exact .nil
 | r::rs,_,h=>by
  obtain⟨u,vs,rfl,a,b⟩:=h;exact .cons (a.val R s) (ba.vals R s b)
theorem ba.keeps{O:List Addr}{σ:L2.St}{H H' :Hp}(R:ah X.K Hi O τ σ H)(s:aC H H'):∀{rs:List RV}{us:List V}{vs:List PV}{n:Bool},ba X Hi O H H' rs us->IR.keeps rs=some (vs,n)->aF X.K Hi n vs (aM H' O) us
 | [],_,_,_,h,e=>by cases h;cases e;exact .nil
 | r::rs,_,vs,n,h,e=>by
  obtain⟨u,ws,rfl,a,b⟩:=h;unfold IR.keeps at e;cases hk:r.keep with
  | none=>rw[hk]at e;cases e
  | some p =>
   obtain⟨v,n1⟩:=p;rw[hk]at e;cases hs:IR.keeps rs with
   | none=>rw[hs]at e;cases e
   | some p =>
    obtain⟨vs',n2⟩:=p;rw[hs]at e;cases e;refine .cons ((a.keep R s hk).low fun z=> ?_) ((ba.keeps R s b hs).low fun z=> ?_)
    ·rw[Du]at z;exact z.1
    ·rw[Du]at z;exact z.2
theorem eA{v:PV}{u:V}{O:List Addr}{H H' :Hp}(h:∀G,Rp X.K Hi true v G u):aZ X.K Hi O H H' (sc v) u:=h _
theorem uy{c:Const}{k:Nat}{pos:Pos}{r:RV}{cd:Nat->List PV->Option PV}(h:aa cd (j8 c) τ=some r):aH X Hi τ (.Constant c k pos) r:=by
 intro O σ H Q R q;cases c with
 | int i =>
  cases h;exact we fj (q _ _ (aC.refl _) (eA fun _=>Rp.int.mpr rfl))
 | bool b =>
  cases h;exact we pP (q _ _ (aC.refl _) (eA fun _=>Rp.bl.mpr rfl))
 | str b =>
  cases h;exact we tY (q _ _ (aC.refl _) (eA fun _=>Rp.str.mpr rfl))
 | none =>
  cases h;exact we AA (q _ _ (aC.refl _) (eA fun _=>Rp.non.mpr rfl))
 | _=>cases h
theorem sL{S:List (Str×NameKind)}{sc:Scope}(e:sc.names=S){x:Str}(h:zC S x=true):Bv sc x:=by
 unfold zC at h;unfold Bv;rw[e]
 simpa [Fw,or_assoc]using h
theorem dC{x:Str}(h:uH x=false):(x==("__debug__":Str))=false/\(x==("__classdict__":Str))=false/\x≠"__name__":=by
 unfold uH at h;simp only[Bool.or_eq_false_iff]at h;exact⟨h.1.1,h.1.2,fun e=>by rw[e]at h;simp at h⟩
theorem kR{cd:Nat->List PV->Option PV}{ct:Ct}(C:bQ cd X ct){x:Str}{pos:Pos}{r:RV}(h:aa cd (bY ct x) τ=some r):aH X Hi τ (.Name x pos) r:=by
 intro O σ H Q R q;unfold bY at h
 split at h
 ·simp[cD,bv,cG,cN,cE,cQ,cK,cL,cO,cF,cH,b5,b6,bw,cP,cC,cB,bx,bz,cA,b9,b7,cM]at h
 rename_i ho;obtain⟨o1,o2,o3⟩:=dC (FU.mpr ho)
 split at h
 ·rename_i hv
  cases hs:slot ct.N x with
  | none=>rw[hs]at h;simp[cD,bv,cG,cN,cE,cQ,cK,cL,cO,cF,cH,b5,b6,bw,cP,cC,cB,bx,bz,cA,b9,b7,cM]at h
  | some i =>
   rw[hs]at h;have h:mW τ i=some r:=by simpa [cD,bv,cG,cN,cE,cQ,cK,cL,cO,cF,cH,b5,b6,bw,cP,cC,cB,bx,bz,cA,b9,b7,cM]using h
   refine we (n6 (by rw[C.N];exact di hs) (sL C.S hv) o1 o2) ?_;unfold mW at h;cases ht:τ[i]? with
   | none=>rw[ht]at h;cases h
   | some t =>
    rw[ht]at h;cases t with
    | un=>cases h
    | frz v n =>
     cases h;obtain⟨u,h1,h2⟩:=R.frz i v n ht;exact⟨u,h1,q u H (aC.refl _) h2⟩
    | own xs n =>
     cases h;obtain⟨l,us,h1,h2,h3,h4⟩:=R.owns i xs n ht;refine⟨_,h1,q _ H (aC.refl _) ?_⟩;refine Rp.lst.mpr ⟨l,us,rfl,(fun z=>absurd z Dy),bJ.of h3,h4.weak.mono fun b o e=> ?_⟩;unfold aM at e
     split at e
     ·cases e
     ·rename_i nb
      unfold del;have ne:b≠l:=fun z=>nb (z▸h2);rw[Dz ne];exact e
    | owd b xs n =>
     cases h;obtain⟨l,us,o,h1,h2,h3,ha,h4⟩:=R.obs i _ b xs n ht rfl;refine⟨_,h1,q _ H (aC.refl _) ?_⟩;refine Rp.at (fun z=>absurd z Dy) h3 ha (h4.weak.mono fun c o e=> ?_);unfold aM at e
     split at e
     ·cases e
     ·rename_i nb
      unfold del;have ne:c≠l:=fun z=>nb (z▸h2);rw[Dz ne];exact e
 ·split at h
  ·rename_i hg
   cases hx:ct.G.lookup x with
   | none=>rw[hx]at h;simp[cD,bv,cG,cN,cE,cQ,cK,cL,cO,cF,cH,b5,b6,bw,cP,cC,cB,bx,bz,cA,b9,b7,cM]at h
   | some v =>
    rw[hx]at h;have h:some (sc v)=some r:=by simpa [cD,bv,cG,cN,cE,cQ,cK,cL,cO,cF,cH,b5,b6,bw,cP,cC,cB,bx,bz,cA,b9,b7,cM]using h
    cases h;obtain⟨u,w,h1,h2,h3⟩:=C.glob x v hx;have g:Gl X x:=by
     show X.env.scope.names.lookup x=_;rw[C.S]
     simpa using hg
    exact we (wj g h1 h2 o1) (q _ _ (aC.refl _) (eA fun _=>h3 _ _ _))
  ·simp[cD,bv,cG,cN,cE,cQ,cK,cL,cO,cF,cH,b5,b6,bw,cP,cC,cB,bx,bz,cA,b9,b7,cM]at h
theorem oj{a b:Expr}{op:Operator}{pos:Pos}{x y r:RV}{rr:R2}(ho:dw X (binaryOp op) rr)(ha:aH X Hi τ a x)(hb:aH X Hi τ b y)
  (k:∀(O:List Addr)(σ:L2.St)(H H2:Hp)(u v:V)(Q:VK),ah X.K Hi O τ σ H->aC H H2->aZ X.K Hi O H H2 x u->aZ X.K Hi O H H2 y v->(∀w H3,aC H2 H3->aZ X.K Hi O H H3 r w->Q w H3)->rr u v H2 Q) :
  aH X Hi τ (.BinOp a op b pos) r:=by
 intro O σ H Q R q;refine we (iD ho ae ae) ?_;refine ha O σ H _ R fun u H1 s1 r1=>hb O σ H1 _ (R.ext s1) fun v H2 s2 r2=> ?_;exact k O σ H H2 u v Q R (s1.trans s2) (r1.ext s2) (r2.back s1) fun w H3 s3 r3=>q w H3 (s1.trans (s2.trans s3)) r3
theorem aZ.int{O:List Addr}{σ:L2.St}{H H' :Hp}{x:RV}{u:V}{i:Int}(R:ah X.K Hi O τ σ H)(s:aC H H')(h:aZ X.K Hi O H H' x u)(e:x.val=.int i):u=.int i:=by
 have z:=h.val R s;rw[e]at z;exact Rp.int.mp z
theorem aZ.str{O:List Addr}{σ:L2.St}{H H' :Hp}{x:RV}{u:V}{i:Str}(R:ah X.K Hi O τ σ H)(s:aC H H')(h:aZ X.K Hi O H H' x u)(e:x.val=.str i):u=.str i:=by
 have z:=h.val R s;rw[e]at z;exact Rp.str.mp z
theorem aZ.bl{O:List Addr}{σ:L2.St}{H H' :Hp}{x:RV}{u:V}{i:Bool}(R:ah X.K Hi O τ σ H)(s:aC H H')(h:aZ X.K Hi O H H' x u)(e:x.val=.bl i):u=.bl i:=by
 have z:=h.val R s;rw[e]at z;exact Rp.bl.mp z
theorem aZ.tup{O:List Addr}{σ:L2.St}{H H' :Hp}{x:RV}{u:V}{ys:List PV}(R:ah X.K Hi O τ σ H)(s:aC H H')(h:aZ X.K Hi O H H' x u)(e:x.val=.tup ys):∃p us,u=.ref p/\cJ X.K H' p us/\aF X.K Hi false ys H' us:=by
 have z:=h.val R s;rw[e]at z;exact Rp.tup.mp z
theorem aZ.lst{O:List Addr}{σ:L2.St}{H H' :Hp}{x:RV}{u:V}{ys:List PV}(R:ah X.K Hi O τ σ H)(s:aC H H')(h:aZ X.K Hi O H H' x u)(e:x.val=.lst ys):∃p us,u=.ref p/\bJ X.K H' p us/\aF X.K Hi false ys H' us:=by
 have z:=h.val R s;rw[e]at z;obtain⟨p,us,h1,_,h2,h3⟩:=Rp.lst.mp z;exact⟨p,us,h1,h2,h3.mono ay⟩
theorem aZ.itsL{O:List Addr}{σ:L2.St}{H H' :Hp}{r:RV}{u:V}{xs ys:List PV}{n:Bool}(R:ah X.K Hi O τ σ H)(s:aC H H')(h:aZ X.K Hi O H H' r u)(e:r.its=some (xs,n))(ev:r.val=.lst ys) :
  ∃p us,u=.ref p/\bJ X.K H' p us/\aF X.K Hi n xs (aM H' O) us:=by
 obtain⟨p,us,h1,h2,h3⟩:=h.its R s e
 rcases h2 with⟨h2,_⟩|⟨_,zs,h2⟩
 ·exact⟨p,us,h1,h2,h3⟩
 ·rw[ev]at h2
  cases h2
theorem dB{O:List Addr}{H H2:Hp}{xs:List PV}{n:Bool}{p:Addr}{us:List V}(s:aC H H2)(hp:H2 p=none)(r:aF X.K Hi n xs (aM H2 O) us):aZ X.K Hi O H (L2.upd H2 p (.lst us)) (.own xs n) (.ref p):=by
 refine⟨p,us,rfl,s.free hp,aD,r.mono (aK fun b o e=> ?_)⟩;have ne:=aG e hp;unfold del;rw[Dz ne,aB ne];exact e
theorem pY{O:List Addr}{σ:L2.St}{H H2:Hp}{p:Addr}{o:HO}(R:ah X.K Hi O τ σ H)(s:aC H H2)(hp:H2 p=none):aM (L2.upd H2 p o) O p=some o:=by
 unfold aM;rw[Dz fun z=> ?_]
 ·exact aD
 ·obtain⟨us,e,_⟩:=(R.own p z).2
  rw[s _ _ e]at hp;cases hp
theorem xR{O:List Addr}{σ:L2.St}{H H2:Hp}{p:Addr}{us:List V}(R:ah X.K Hi O τ σ H)(s:aC H H2)(h:cJ X.K H2 p us):cJ X.K (aM H2 O) p us:=(R.ext s).tups.at h
theorem low2{n m:Bool}{xs ys:List PV}{H:Hp}{us vs:List V}(a:aF X.K Hi n xs H us)(b:aF X.K Hi m ys H vs):aF X.K Hi (n&&m) (xs++ys) H (us++vs):=by
 refine aF.app (a.low fun z=> ?_) (b.low fun z=> ?_)
 ·rw[Du]at z;exact z.1
 ·rw[Du]at z;exact z.2
theorem sw{O:List Addr}{H H' :Hp}{i:Int}:aZ X.K Hi O H H' (sc (.int i)) (.int i):=eA fun _=>Rp.int.mpr rfl
theorem CU{O:List Addr}{H H' :Hp}{i:Bool}:aZ X.K Hi O H H' (sc (.bl i)) (.bl i):=eA fun _=>Rp.bl.mpr rfl
theorem scS{O:List Addr}{H H' :Hp}{i:Str}:aZ X.K Hi O H H' (sc (.str i)) (.str i):=eA fun _=>Rp.str.mpr rfl
theorem xA{xs:List PV}{n:Bool}{r:RV}(h:qf xs n=some r):xs.length<=LN/\r=.own xs n:=by
 unfold qf at h
 split at h
 ·rename_i e;cases h;exact⟨e,rfl⟩
 ·cases h
theorem wz{xs:List PV}{n:Bool}{r:RV}(h:qe xs n=some r):xs.length<=LN/\r=.frz (.tup xs) n:=by
 unfold qe at h
 split at h
 ·rename_i e;cases h;exact⟨e,rfl⟩
 ·cases h
theorem binI{a b:Expr}{op:Operator}{pos:Pos}{x y:RV}{i j:Int}{C:Int->Int->Prop}{g:Int->Int->V}{w:PV}(ho:dw X (binaryOp op) (rI C g))(ha:aH X Hi τ a x)(hb:aH X Hi τ b y)(ex:x.val=.int i)(ey:y.val=.int j)(c:C i j)
  (hg:∀G,Rp X.K Hi true w G (g i j)):aH X Hi τ (.BinOp a op b pos) (sc w) :=
 oj ho ha hb fun O σ H H2 u v Q R s ru rv q=>⟨i,j,ru.int R s ex,rv.int R s ey,c,q _ _ (aC.refl _) (eA hg)⟩
theorem yr{a b:Expr}{op:Operator}{pos:Pos}{x y:RV}{i j:Int}{g:Int->Int->V}{w:PV}(ho:dw X (binaryOp op) (tG g))(ha:aH X Hi τ a x)(hb:aH X Hi τ b y)(ex:x.val=.int i)(ey:y.val=.int j)
  (hg:∀G,Rp X.K Hi true w G (g i j)):aH X Hi τ (.BinOp a op b pos) (sc w) :=
 oj ho ha hb fun O σ H H2 u v Q R s ru rv q=>⟨i,j,ru.int R s ex,rv.int R s ey,q _ _ (aC.refl _) (eA hg)⟩
theorem vH{a b:Expr}{op:Operator}{pos:Pos}{x y r:RV}(ha:aH X Hi τ a x)(hb:aH X Hi τ b y)(h:eF op x y=some r):aH X Hi τ (.BinOp a op b pos) r:=by
 cases op with
 | Add =>
  have h:oo x y=some r:=h;unfold oo at h
  split at h
  case h_1 i j e1 e2=>cases h;exact yr oB ha hb e1 e2 fun _=>Rp.int.mpr rfl
  case h_2 i j e1 e2 =>
   split at h
   ·rename_i hz
    cases h;exact oj oA ha hb fun O σ H H2 u v Q R s ru rv q=>⟨i,j,ru.str R s e1,rv.str R s e2,by rw[dS];exact hz,q _ _ (aC.refl _) scS⟩
   ·cases h
  case h_3=>cases h
 | Sub =>
  have h:ol x y=some r:=h;unfold ol at h
  split at h
  case h_1 i j e1 e2=>cases h;exact yr AB ha hb e1 e2 fun _=>Rp.int.mpr rfl
  case h_2=>cases h
 | Mult =>
  have h:kw x y=some r:=h;unfold kw at h
  split at h
  case h_1 i j e1 e2 =>
   split at h
   ·rename_i c
    cases h;exact binI AE ha hb e1 e2 c fun _=>Rp.int.mpr rfl
   ·split at h
    ·rename_i c
     cases h;exact binI wq ha hb e1 e2 c fun _=>Rp.int.mpr rfl
    ·cases h
  case h_2=>cases h
 | FloorDiv =>
  have h:dg x y=some r:=h;unfold dg at h
  split at h
  case h_1 i j e1 e2 =>
   split at h
   ·rename_i c
    cases h;exact binI uD ha hb e1 e2 ⟨c.1,FQ ((Nat.log2_lt (n:=j.natAbs) (k:=200) (by omega)).mpr (by omega)) (by decide)⟩ fun _=>Rp.int.mpr rfl
   ·cases h
  case h_2=>cases h
 | Mod =>
  have h:om x y=some r:=h;unfold om at h
  split at h
  case h_1 i j e1 e2 =>
   split at h
   ·rename_i c
    cases h;exact binI AF ha hb e1 e2 c fun _=>Rp.int.mpr rfl
   ·cases h
  case h_2=>cases h
 | LShift =>
  have h:gC x y=some r:=h;unfold gC at h
  split at h
  case h_1 i j e1 e2 =>
   split at h
   ·rename_i c
    cases h;exact binI AC ha hb e1 e2 c fun _=>Rp.int.mpr rfl
   ·cases h
  case h_2=>cases h
 | _=>exact absurd (show(none:Option RV)=some r from h) (by intro z;cases z)
mutual
theorem au{pins:List (Addr×Obj)}{σ:L2.St}{H:Hp}{s:Shared}(I:Inv X pins σ H s):∀{a:PV}{n:Nat}{u:V}{u' :Value},eV n a=true->Rp X.K Hi false a H u->RelV u u' ->∃as,Reads s.heap u' (jB a) as
 | .non,_,_,_,_,r,e=>by cases Rp.non.mp r;cases e;exact⟨_,.none⟩
 | .bl b,_,_,_,_,r,e=>by cases Rp.bl.mp r;cases e;exact⟨_,.bool b⟩
 | .int i,_,_,_,_,r,e=>by cases Rp.int.mp r;obtain⟨t,rfl⟩:=e;exact⟨_,.int i t⟩
 | .str z,_,_,_,_,r,e=>by cases Rp.str.mp r;obtain⟨t,rfl⟩:=e;exact⟨_,.str z t⟩
 | .lst xs,n,_,_,f,r,e=>by
  obtain⟨p,us,rfl,_,l,r⟩:=Rp.lst.mp r;cases e;cases n with
  | zero=>cases f
  | succ n =>
   obtain⟨its,rv,pl,_⟩:=I.list l;obtain⟨as,z⟩:=eO I (xs:=xs) (n:=n) f (r.mono ay) rv;obtain⟨o,ho,hc,m,hd⟩:=pl.isList;exact⟨_,.list ho hc hd (by simpa using z)⟩
 | .tup xs,n,_,_,f,r,e=>by
  obtain⟨p,us,rfl,l,r⟩:=Rp.tup.mp r;cases e;cases n with
  | zero=>cases f
  | succ n =>
   obtain⟨its,rv,pl,_⟩:=I.tuple l;obtain⟨as,z⟩:=eO I (xs:=xs) (n:=n) f r rv;obtain⟨o,ho,hc,m,hd⟩:=pl;exact⟨_,.tuple ho hc hd (by simpa using z)⟩
 | .dK _ _,n,_,_,f,_,_=>by cases n<;>cases f
 | .dT _ _,n,_,_,f,_,_=>by cases n<;>cases f
theorem eO{pins:List (Addr×Obj)}{σ:L2.St}{H:Hp}{s:Shared}(I:Inv X pins σ H s):∀{xs:List PV}{n:Nat}{us:List V}{us' :List Value},xs.all (eV n)=true->aF X.K Hi false xs H us->aQ us us' ->∃as,ReadsAll s.heap us' (cx xs) as
 | [],_,_,_,_,r,e=>by
  unfold aF at r;subst r;cases e;exact⟨_,.nil⟩
 | x::xs,n,_,_,f,r,e=>by
  unfold aF at r;obtain⟨u,us,rfl,r1,r2⟩:=r;cases e with
  | cons e1 e2 =>
   rw[Fc,Du]at f;obtain⟨as,z⟩:=au I f.1 r1 e1;obtain⟨bs,y⟩:=eO I f.2 r2 e2;exact⟨_,.cons z y⟩
end
mutual
theorem cR:∀{a:PV}{n:Nat},eV n a=true->(jB a).canLay0=true/\(jB a).depth<=n
 | .non,n,_=>⟨rfl,EY _⟩
 | .bl _,n,_=>⟨rfl,EY _⟩
 | .int _,n,_=>⟨rfl,EY _⟩
 | .str z,n,h=>⟨by cases n<;>exact h,EY _⟩
 | .lst xs,0,h=>by cases h
 | .lst xs,n+1,h=>⟨(cw (xs:=xs) (n:=n) h).1,Nat.succ_le_succ (cw (xs:=xs) (n:=n) h).2⟩
 | .tup xs,0,h=>by cases h
 | .tup xs,n+1,h=>⟨(cw (xs:=xs) (n:=n) h).1,Nat.succ_le_succ (cw (xs:=xs) (n:=n) h).2⟩
 | .dK _ _,n,h=>by cases n<;>cases h
 | .dT _ _,n,h=>by cases n<;>cases h
theorem cw:∀{xs:List PV}{n:Nat},xs.all (eV n)=true->PyData.canLayAll0 (cx xs)=true/\PyData.depthAll (cx xs)<=n
 | [],n,_=>⟨rfl,EY _⟩
 | x::xs,n,h=>by
  rw[Fc,Du]at h;obtain⟨a,b⟩:=cR h.1;obtain⟨c,d⟩:=cw h.2;refine⟨?_,?_⟩
  ·show((jB x).canLay0&&PyData.canLayAll0 (cx xs))=true
   rw[a,c];rfl
  ·show max (jB x).depth (PyData.depthAll (cx xs))<=n
   omega
end
mutual
theorem fP:∀(a b:PV),PyData.eqv (jB a) (jB b)=lE a b
 | .lst xs,b=>by
  cases b with
  | lst ys=>show PyData.eqvAll (cx xs) (cx ys)=oO xs ys;exact ia xs ys
  | _=>rfl
 | .tup xs,b=>by
  cases b with
  | tup ys=>show PyData.eqvAll (cx xs) (cx ys)=oO xs ys;exact ia xs ys
  | _=>rfl
 | .non,b=>by cases b<;>rfl
 | .bl x,b=>by cases b<;>first|rfl|exact beq_eq_decide _ _|(unfold lE;simp[jB,PyData.eqv,xZ,Fo])
 | .int x,b=>by cases b<;>first|rfl|exact beq_eq_decide _ _|(unfold lE;simp[jB,PyData.eqv,xZ,Fo])
 | .str x,b=>by cases b<;>first|rfl|exact beq_eq_decide _ _|(unfold lE;simp[jB,PyData.eqv,xZ,Fo])
 | .dK k v,b=>by cases b<;>rfl
 | .dT k v,b=>by cases b<;>rfl
theorem ia:∀(xs ys:List PV),PyData.eqvAll (cx xs) (cx ys)=oO xs ys
 | [],[]=>rfl
 | [],_::_=>rfl
 | _::_,[]=>rfl
 | x::xs,y::ys=>by
  show(PyData.eqv (jB x) (jB y)&&PyData.eqvAll (cx xs) (cx ys))=(lE x y&&oO xs ys);rw[fP x y,ia xs ys]
end
theorem ib(x:PV):∀ys:List PV,((cx ys).any fun y=>PyData.eqv y (jB x))=ys.any fun y=>lE y x
 | []=>rfl
 | y::ys=>by
  show(PyData.eqv (jB y) (jB x)||(cx ys).any fun y=>PyData.eqv y (jB x))=(lE y x||ys.any fun y=>lE y x);rw[fP,ib x ys]
variable(X Hi)in
noncomputable def Ch(g:Bool->Bool):R2:=fun x y H Q=>∃a b,eV 12 a=true/\eV 12 b=true/\Rp X.K Hi false a H x/\Rp X.K Hi false b H y/\Q (.bl (g (lE a b))) H
theorem AG(hu:X.A.units+64<cLine):dw X (compareOp .Eq) (Ch X Hi id):=by
 intro pins s σ H x y u v Q I rx ry h;obtain⟨a,b,fa,fb,ra,rb,q⟩:=h;obtain⟨as,za⟩:=au I fa ra rx;obtain⟨bs,zb⟩:=au I fb rb ry;obtain⟨ca,da⟩:=cR fa;obtain⟨cb,db⟩:=cR fb;refine SeqAt.compareEq_reads za zb ca cb (by omega) ?_;rw[fP];exact⟨.bl _,H,I,rfl,q⟩
theorem AD(hu:X.A.units+64<cLine):dw X (compareOp .NotEq) (Ch X Hi not):=by
 intro pins s σ H x y u v Q I rx ry h;obtain⟨a,b,fa,fb,ra,rb,q⟩:=h;obtain⟨as,za⟩:=au I fa ra rx;obtain⟨bs,zb⟩:=au I fb rb ry;obtain⟨ca,da⟩:=cR fa;obtain⟨cb,db⟩:=cR fb;refine SeqAt.compareNe_reads za zb ca cb (by omega) ?_;rw[fP];exact⟨.bl _,H,I,rfl,q⟩
variable(X Hi)in
noncomputable def rIn2(g:Bool->Bool):R2:=fun x y H Q=>∃a ys,eV 12 a=true/\ys.all (eV 12)=true/\Rp X.K Hi false a H x/\(Rp X.K Hi false (.lst ys) H y\/Rp X.K Hi false (.tup ys) H y)/\Q (.bl (g (ys.any fun y=>lE y a))) H
theorem wo(hu:X.A.units+64<cLine):dw X (compareOp .NotIn) (rIn2 X Hi not):=by
 intro pins s σ H x y u v Q I rx ry h;obtain⟨a,ys,fa,fb,ra,rb,q⟩:=h;obtain⟨as,za⟩:=au I fa ra rx;obtain⟨ca,da⟩:=cR fa;obtain⟨cb,db⟩:=cw fb
 rcases rb with rb|rb
 ·obtain⟨bs,zb⟩:=au I (a:=.lst ys) (n:=13) fb rb ry
  refine SeqAt.notIn_list_reads zb za cb ca (by omega) ?_;rw[ib];exact⟨.bl _,H,I,rfl,q⟩
 ·obtain⟨bs,zb⟩:=au I (a:=.tup ys) (n:=13) fb rb ry
  refine SeqAt.notIn_tuple_reads zb za cb ca (by omega) ?_;rw[ib];exact⟨.bl _,H,I,rfl,q⟩
noncomputable def Bg(A:Around)(s:Shared)(a b:Value)(t:Bool):Prop:=∀(prog:Program)(w:World)(E:Value->Shared->Prop)(Q:Value->Shared->Prop),Q (.bool t) s->wpAny (model prog w) A (richCompare .Lt a b) Q E s
inductive OW(A:Around)(s:Shared):List (Value×Value)->Option Bool->Prop
 | nil:OW A s [] none
 | eq {p q:Value} {r:List (Value×Value)} {t:Option Bool}:SeqAt.EqAt A s p q true->OW A s r t->OW A s ((p,q)::r) t
 | ne {p q:Value} {r:List (Value×Value)} {t:Bool}:SeqAt.EqAt A s p q false->Bg A s p q t->OW A s ((p,q)::r) (some t)
theorem zE(l b:Addr)(xs ys:Array Value)(n n2:Nat)(d1 d2:Option Addr)(sl sl2:Array (Option Value)):Meets (Builtin.«tuple.__lt__» ⟨[.ref l,.ref b],[]⟩)
  (fun A R s=>s.heap.get? l=some ⟨.type "tuple",d1,.seq xs n,sl⟩/\s.heap.get? b=some ⟨.type "tuple",d2,.seq ys n2,sl2⟩ /\
   ∃t:Option Bool,OW A.in1 s (xs.toList.zip ys.toList) t/\R (.ok (.ret (.bool (t.getD (decide (xs.size<ys.size)))))) s) :=
 .of_wp fun prog w A R s h=>by
  obtain⟨hp,g,d,tk,os⟩:=s;obtain⟨h1,h2,t,ow,hR⟩:=h;have f2:=AutoSeq1.sub_tuple_tuple
  wp_walk using AutoSeq1.wpAny_loadPart' h1,AutoSeq1.wpAny_loadPart' h2,wpAny_forIn_list _ (fun aN c s' =>c.1=none/\s' =⟨hp,g,d,tk,os⟩/\∃t:Option Bool,OW A.in1 ⟨hp,g,d,tk,os⟩ aN t/\R (.ok (.ret (.bool (t.getD (decide (xs.size<ys.size)))))) ⟨hp,g,d,tk,os⟩) _
  case turn =>
   rintro⟨y,x⟩ aN c s' ⟨hc,rfl,t,ow,hR⟩;cases ow with
   | eq he ow =>
    refine D6 (he prog w _ _ ?_)
    wp_walk
    exact⟨rfl,rfl,t,ow,hR⟩
   | ne he hl =>
    refine D6 (he prog w _ _ ?_);refine D6 (wpAny_rule (D6 (hl prog w _ _ ?_)));refine D6 (ES (ES ?_));exact ES ⟨_,rfl,hR⟩
  case fin =>
   rintro⟨c1,c2⟩ s' ⟨hc,rfl,t,ow,hR⟩;cases ow;simp only at hc;subst hc
   wp_walk
   exact⟨_,rfl,by simpa [Builtin.Tuple.tupleCompareSizes]using hR⟩
  case h =>
   exact⟨rfl,rfl,t,ow,hR⟩
theorem qj{A:Around}{s:Shared}{l b:Addr}{xs ys:Array Value}{t:Option Bool}(hl:s.heap.IsTuple l xs)(hb:s.heap.IsTuple b ys)(hu:A.units<cLine)(ow:OW A.in1 s (xs.toList.zip ys.toList) t):Bg A s (.ref l) (.ref b) (t.getD (decide (xs.size<ys.size))):=fun prog w E Q h=>by
 obtain⟨⟨c1,d1,x1,s1⟩,h1,e1,n,y1⟩:=id hl;obtain⟨⟨c2,d2,x2,s2⟩,h2,e2,m,y2⟩:=id hb;simp only at e1 y1 e2 y2;subst e1 y1 e2 y2;exact richCompare_meets_room (op:=.Lt) ⟨_,h1,rfl⟩ ⟨_,h2,rfl⟩ PySem.F.slot_tuple_lt PySem.F.entry_tuple_lt (PySem.F.args_tuple_lt_2 _ _) (zE l b xs ys n m d1 d2 s1 s2) ⟨h1,h2,t,ow,(fun z=>nomatch z),h⟩ hu
mutual
theorem uN:∀{x y:PV}{n:Nat}{A:Around}{s:Shared}{a b:Value}{as bs:List Addr}{t:Bool},Reads s.heap a (jB x) as->Reads s.heap b (jB y) bs->eV n x=true->eV n y=true->A.units+n<cLine->Cw x y=some t->Bg A s a b t
 | .int i,y,_,_,_,_,_,_,_,_,ra,rb,_,_,_,h=>by
  cases y with
  | int j =>
   cases h;cases ra;cases rb;exact fun prog w E Q q=>PyProof.Rows.lt_int q
  | _=>cases h
 | .tup xs,y,n,A,s,_,_,_,_,t,ra,rb,fa,fb,hu,h=>by
  cases y with
  | tup ys =>
   cases n with
   | zero=>cases fa
   | succ n =>
    cases ra with
    | @tuple l o vs m _ _ h1 h2 h3 h4 =>
     cases rb with
     | @tuple l' o' ws m' _ _ k1 k2 k3 k4 =>
      obtain⟨o,ow,e⟩:=pS (A:=A.in1) (n:=n) h4 k4 fa fb (by show A.units+1+n<cLine;omega) h;rw[EQ,EQ]at e;rw[e];exact qj ⟨_,h1,h2,_,h3⟩ ⟨_,k1,k2,_,k3⟩ (by omega) ow
  | _=>cases h
 | .non,_,_,_,_,_,_,_,_,_,_,_,_,_,_,h=>by cases h
 | .bl _,_,_,_,_,_,_,_,_,_,_,_,_,_,_,h=>by cases h
 | .str _,_,_,_,_,_,_,_,_,_,_,_,_,_,_,h=>by cases h
 | .lst _,_,_,_,_,_,_,_,_,_,_,_,_,_,_,h=>by cases h
 | .dK _ _,_,_,_,_,_,_,_,_,_,_,_,_,_,_,h=>by cases h
 | .dT _ _,_,_,_,_,_,_,_,_,_,_,_,_,_,_,h=>by cases h
theorem pS:∀{xs ys:List PV}{n:Nat}{A:Around}{s:Shared}{vs ws:List Value}{as bs:List Addr}{t:Bool},ReadsAll s.heap vs (cx xs) as->ReadsAll s.heap ws (cx ys) bs->xs.all (eV n)=true->ys.all (eV n)=true->A.units+n<cLine->xE xs ys=some t ->
  ∃o:Option Bool,OW A s (vs.zip ws) o/\t=o.getD (decide (vs.length<ws.length))
 | [],ys,_,_,_,_,_,_,_,_,ra,rb,_,_,_,h=>by
  cases h;cases ra;refine⟨none,.nil,?_⟩;cases ys with
  | nil=>cases rb;rfl
  | cons y ys=>cases rb;rfl
 | x::xs,[],_,_,_,_,_,_,_,_,ra,rb,_,_,_,h=>by
  cases h;cases rb;exact⟨none,by rw[List.zip_nil_right];exact .nil,rfl⟩
 | x::xs,y::ys,n,A,s,_,_,_,_,t,ra,rb,fa,fb,hu,h=>by
  rw[Fc,Du]at fa fb;cases ra with
  | cons r rs =>
   cases rb with
   | cons r' rs' =>
    obtain⟨c1,d1⟩:=cR fa.1;obtain⟨c2,d2⟩:=cR fb.1;have he:=SeqAt.eqAt_reads (jB x) (jB y) A s _ _ _ _ r r' c1 c2 (by omega);rw[fP]at he;have h:(if lE x y=true then xE xs ys else Cw x y)=some t:=h;cases e:lE x y with
    | true =>
     rw[e]at h he;obtain⟨o,ow,z⟩:=pS rs rs' fa.2 fb.2 hu h;refine⟨o,.eq he ow,?_⟩;rw[z,ED,ED]
     congr 1
     exact decide_eq_decide.mpr (by omega)
    | false =>
     rw[e]at h he;exact⟨some t,.ne he (uN r r' fa.1 fb.1 hu h),rfl⟩
end
variable(X Hi)in
noncomputable def zj:R2:=fun x y H Q=>∃a b t,eV 12 a=true/\eV 12 b=true/\Rp X.K Hi false a H x/\Rp X.K Hi false b H y/\Cw a b=some t/\Q (.bl t) H
theorem uB(hu:X.A.units+64<cLine):dw X (compareOp .Lt) (zj X Hi):=by
 intro pins s σ H x y u v Q I rx ry h;obtain⟨a,b,t,fa,fb,ra,rb,e,q⟩:=h;obtain⟨as,za⟩:=au I fa ra rx;obtain⟨bs,zb⟩:=au I fb rb ry;exact uN za zb fa fb (by omega) e _ _ _ _ ⟨.bl _,H,I,rfl,q⟩
theorem uW{y:PV}{k:ac}{n:Bool}{G:Hp}{v:V}(h:iP y=some k)(r:Rp X.K Hi n y G v):v=kV k:=by
 cases y with
 | int i=>cases h;exact Rp.int.mp r
 | str z=>cases h;exact Rp.str.mp r
 | _=>cases h
theorem Rp.dT{n:Bool}{ks:List (List ac)}{vs:List PV}{G:Hp}{u:V}(h:Rp X.K Hi n (.dT ks vs) G u):∃p us,u=.ref p/\G p=some (.dT (ks.zip us))/\ks.length=us.length/\aF X.K Hi n vs (IR.del G p) us:=by
 unfold Rp at h;obtain⟨p,us,e,_,h1,h2,h3⟩:=h;exact⟨p,us,e,h1,h2,h3⟩
theorem Rp.dK{n:Bool}{ks:List ac}{vs:List PV}{G:Hp}{u:V}(h:Rp X.K Hi n (.dK ks vs) G u):∃p us,u=.ref p/\G p=some (.dK (ks.zip us))/\ks.length=us.length/\aF X.K Hi n vs (IR.del G p) us:=by
 unfold Rp at h;obtain⟨p,us,e,_,h1,h2,h3⟩:=h;exact⟨p,us,e,h1,h2,h3⟩
theorem uk{a b:PV}{t:Bool}{H H' :Hp}{u v:V}(h:eqs a b=some t)(ha:Rp X.K Hi false a H u)(hb:Rp X.K Hi false b H' v):zQ u v=true/\decide (u=v)=t:=by
  cases a<;>cases b<;>first
    | exact absurd (show(none:Option Bool)=some t from h) (by intro z;cases z)
    | (have e:=EJ (show some _=some t from h)
       subst e
       first
       | rw[Rp.int.mp ha]|rw[Rp.str.mp ha]|rw[Rp.bl.mp ha]|rw[Rp.non.mp ha]
       first
       | rw[Rp.int.mp hb]|rw[Rp.str.mp hb]|rw[Rp.bl.mp hb]|rw[Rp.non.mp hb]
       exact⟨rfl,by simp⟩)
theorem pc{a:PV}{H:Hp}{u:V}(ha:Rp X.K Hi false a H u)(f:mj a=true):eD u=true:=by
 cases a with
 | non=>rw[Rp.non.mp ha];rfl
 | bl b=>rw[Rp.bl.mp ha];rfl
 | int b=>rw[Rp.int.mp ha];rfl
 | str b=>rw[Rp.str.mp ha];rfl
 | _=>cases f
theorem A7{a b:PV}{H H' :Hp}{u v:V}(ha:Rp X.K Hi false a H u)(hb:Rp X.K Hi false b H' v)(fa:mj a=true)(fb:mj b=true):sB u v=xZ a b:=by
 cases a<;>(try cases fa)<;>cases b<;>(try cases fb) <;>
  (first|rw[Rp.int.mp ha]|rw[Rp.str.mp ha]|rw[Rp.bl.mp ha]|rw[Rp.non.mp ha]) <;>
  (first|rw[Rp.int.mp hb]|rw[Rp.str.mp hb]|rw[Rp.bl.mp hb]|rw[Rp.non.mp hb]) <;>
  first|rfl|exact beq_eq_decide _ _|exact(beq_eq_decide _ _).symm|(simp[sB,xZ,Fo];done)|(unfold sB xZ;simp only[beq_eq_decide])
theorem mi:∀{xs:List PV}{H:Hp}{us:List V},aF X.K Hi false xs H us->xs.all mj=true->us.all eD=true
 | [],_,_,h,_=>by unfold aF at h;subst h;rfl
 | x::xs,_,_,h,f=>by
  unfold aF at h;obtain⟨u,r,rfl,a,b⟩:=h;rw[Fc,Du]at f ⊢;exact⟨pc a f.1,mi b f.2⟩
theorem vO{x:PV}{H' :Hp}{v:V}(hb:Rp X.K Hi false x H' v)(fb:mj x=true):∀{xs:List PV}{H:Hp}{us:List V},aF X.K Hi false xs H us->xs.all mj=true->inV v us=xs.any fun y=>xZ y x
 | [],_,_,h,_=>by unfold aF at h;subst h;rfl
 | y::xs,_,_,h,f=>by
  unfold aF at h;obtain⟨u,r,rfl,a,b⟩:=h;rw[Fc,Du]at f;show(sB u v||inV v r)=_;rw[Fb,vO hb fb b f.2,A7 a hb f.1 fb]
theorem AO{a:PV}{H:Hp}{u:V}(ha:Rp X.K Hi false a H u)(h:∀z,a≠z\/z≠PV.non):u≠.non:=by
 intro e;subst e;cases a with
 | non=>rcases h .non with z|z<;>exact z rfl
 | bl b=>cases Rp.bl.mp ha
 | int b=>cases Rp.int.mp ha
 | str b=>cases Rp.str.mp ha
 | lst xs=>obtain⟨p,us,z,_⟩:=Rp.lst.mp ha;cases z
 | tup xs=>obtain⟨p,us,z,_⟩:=Rp.tup.mp ha;cases z
 | dK ks vs=>unfold Rp at ha;obtain⟨p,us,z,_⟩:=ha;cases z
 | dT ks vs=>unfold Rp at ha;obtain⟨p,us,z,_⟩:=ha;cases z
theorem my(hun:X.A.units+64<cLine){op:CmpOp}{x y:RV}{t:Bool}(h:cS op x.val y.val=some t):∃rr:R2,dw X (compareOp op) rr /\
  ∀(O:List Addr)(σ:L2.St)(H H2:Hp)(u v:V)(Q:VK),ah X.K Hi O τ σ H->aC H H2->aZ X.K Hi O H H2 x u->aZ X.K Hi O H H2 y v->Q (.bl t) H2->rr u v H2 Q:=by
 cases op with
 | Lt =>
  have h:uz x.val y.val=some t:=h;unfold uz at h
  split at h
  case h_1 i j e1 e2=>cases h;exact⟨_,Cp,fun O σ H H2 u v Q R s ru rv q=>⟨i,j,ru.int R s e1,rv.int R s e2,q⟩⟩
  case h_2 xs ys e1 e2 =>
   unfold ltT at h
   split at h
   ·rename_i c
    rw[Du]at c;exact⟨_,uB (Hi:=Hi) hun,fun O σ H H2 u v Q R s ru rv q=>⟨_,_,t,c.1,c.2,by have z:=ru.val R s;rw[e1]at z;exact z,by have z:=rv.val R s;rw[e2]at z;exact z,h,q⟩⟩
   ·cases h
  case h_3=>cases h
 | LtE =>
  have h:oV x.val y.val=some t:=h;unfold oV at h
  split at h
  case h_1 i j e1 e2=>cases h;exact⟨_,Cq,fun O σ H H2 u v Q R s ru rv q=>⟨i,j,ru.int R s e1,rv.int R s e2,q⟩⟩
  case h_2=>cases h
 | Gt =>
  have h:vB x.val y.val=some t:=h;unfold vB at h
  split at h
  case h_1 i j e1 e2=>cases h;exact⟨_,Cr,fun O σ H H2 u v Q R s ru rv q=>⟨i,j,ru.int R s e1,rv.int R s e2,q⟩⟩
  case h_2=>cases h
 | GtE =>
  have h:oW x.val y.val=some t:=h;unfold oW at h
  split at h
  case h_1 i j e1 e2=>cases h;exact⟨_,Cs,fun O σ H H2 u v Q R s ru rv q=>⟨i,j,ru.int R s e1,rv.int R s e2,q⟩⟩
  case h_2=>cases h
 | Eq =>
  have h:ym x.val y.val=some t:=h;unfold ym at h
  split at h
  ·rename_i z
   cases h;refine⟨_,yf,fun O σ H H2 u v Q R s ru rv q=> ?_⟩;obtain⟨z1,z2⟩:=uk z (ru.val R s) (rv.val R s);exact⟨z1,by rw[z2];exact q⟩
  ·split at h
   ·rename_i c
    rw[Du]at c;cases h;exact⟨_,AG (Hi:=Hi) hun,fun O σ H H2 u v Q R s ru rv q=>⟨_,_,c.1,c.2,ru.val R s,rv.val R s,q⟩⟩
   ·cases h
 | NotEq =>
  have h:(ym x.val y.val).map (!·)=some t:=h;obtain⟨k,e,rfl⟩:∃k,ym x.val y.val=some k/\t= !k:=by
   cases e:ym x.val y.val with
   | none=>rw[e]at h;cases h
   | some k=>rw[e]at h;cases h;exact⟨k,rfl,rfl⟩
  unfold ym at e
  split at e
  ·rename_i z
   cases e;refine⟨_,Co,fun O σ H H2 u v Q R s ru rv q=> ?_⟩;obtain⟨z1,z2⟩:=uk z (ru.val R s) (rv.val R s);exact⟨z1,by rw[z2];exact q⟩
  ·split at e
   ·rename_i c
    rw[Du]at c;cases e;exact⟨_,AD (Hi:=Hi) hun,fun O σ H H2 u v Q R s ru rv q=>⟨_,_,c.1,c.2,ru.val R s,rv.val R s,q⟩⟩
   ·cases e
 | Is =>
  have h:vA x.val y.val=some t:=h;unfold vA at h
  split at h
  case h_1 e1 e2 =>
   cases h;refine⟨_,uC,fun O σ H H2 u v Q R s ru rv q=> ?_⟩;have z1:=ru.val R s;have z2:=rv.val R s;rw[e1]at z1;rw[e2]at z2;exact⟨Rp.non.mp z2,by rw[Rp.non.mp z1];exact q⟩
  case h_2 e2 ne =>
   cases h;refine⟨_,uC,fun O σ H H2 u v Q R s ru rv q=> ?_⟩;have z2:=rv.val R s;rw[e2]at z2;have n:u≠.non:=AO (ru.val R s) fun z=>by
    by_cases c:z=.non
    ·left;intro c2;exact ne (c2.trans c)
    ·right;exact c
   exact⟨Rp.non.mp z2,by rw[EV n];exact q⟩
  case h_3=>cases h
 | NotIn =>
  have h:ig x.val y.val=some t:=h;unfold ig at h
  split at h
  case h_1 ys e2 =>
   obtain⟨k,e,rfl⟩:∃k,Br x.val ys=some k/\t= !k:=by
    cases e:Br x.val ys with
    | none=>rw[e]at h;cases h
    | some k=>rw[e]at h;cases h;exact⟨k,rfl,rfl⟩
   unfold Br at e
   split at e
   ·rename_i c
    cases e;refine⟨_,kO,fun O σ H H2 u v Q R s ru rv q=> ?_⟩;obtain⟨p,us,rfl,l,r⟩:=rv.lst R s e2;exact⟨p,us,rfl,.inl l,pc (ru.val R s) c.1,mi r c.2,by rw[vO (ru.val R s) c.1 r c.2];exact q⟩
   ·split at e
    ·rename_i c
     rw[Du]at c;cases e;exact⟨_,wo (Hi:=Hi) hun,fun O σ H H2 u v Q R s ru rv q=>⟨_,ys,c.1,c.2,ru.val R s,.inl (by have z:=rv.val R s;rw[e2]at z;exact z),q⟩⟩
    ·cases e
  case h_2=>cases h
 | _=>exact absurd (show(none:Option Bool)=some t from h) (by intro z;cases z)
theorem yh{op:CmpOp}{b:Expr}(h:cq b=false):behindInMarks op b=false:=by
 cases b<;>first|rfl|cases h
theorem BJ(hun:X.A.units+64<cLine){a b:Expr}{op:CmpOp}{pos:Pos}{x y:RV}{t:Bool}(ha:aH X Hi τ a x)(hb:aH X Hi τ b y)(hs:cq b=false)(h:cS op x.val y.val=some t):aH X Hi τ (.Compare a [op] [b] pos) (sc (.bl t)):=by
 obtain⟨rr,ho,k⟩:=my (X:=X) (Hi:=Hi) (τ:=τ) hun h;intro O σ H Q R q;refine we (wm ho ae ae (yh hs)) ?_;refine ha O σ H _ R fun u H1 s1 r1=>hb O σ H1 _ (R.ext s1) fun v H2 s2 r2=> ?_;exact k O σ H H2 u v Q R (s1.trans s2) (r1.ext s2) (r2.back s1) (q _ _ (s1.trans s2) CU)
theorem BI(hun:X.A.units+64<cLine){a b:Expr}{op:CmpOp}{pos:Pos}{x y:RV}{t:Bool}(ha:aH X Hi τ a x)(hb:aH X Hi τ b y)(hs:cq b=false)(h:cS op x.val y.val=some t):dh X Hi τ (.Compare a [op] [b] pos) t:=by
 obtain⟨rr,ho,k⟩:=my (X:=X) (Hi:=Hi) (τ:=τ) hun h;intro O σ H Q R q;refine wt (pL ho ae ae (yh hs)) ?_;refine ha O σ H _ R fun u H1 s1 r1=>hb O σ H1 _ (R.ext s1) fun v H2 s2 r2=> ?_;exact k O σ H H2 u v _ R (s1.trans s2) (r1.ext s2) (r2.back s1) ⟨t,rfl,q _ (s1.trans s2)⟩
theorem AS{a:Expr}{pos:Pos}{x:RV}{i:Int}(ha:aH X Hi τ a x)(e:x.val=.int i):aH X Hi τ (.UnaryOp .USub a pos) (sc (.int (-i))):=by
 intro O σ H Q R q;refine we (ya sN ae) ?_;exact ha O σ H _ R fun u H1 s1 r1=>⟨i,r1.int R s1 e,q _ _ s1 sw⟩
theorem AN{a:Expr}{pos:Pos}{x:RV}{b:Bool}(ha:aH X Hi τ a x)(e:x.val=.bl b):aH X Hi τ (.UnaryOp .Not a pos) (sc (.bl !b)):=by
 intro O σ H Q R q;refine we (z9 ae) ?_;exact ha O σ H _ R fun u H1 s1 r1=>⟨b,r1.bl R s1 e,q _ _ s1 CU⟩
theorem AK{op:BoolOp}{a:Expr}{pos:Pos}{x:RV}(ha:aH X Hi τ a x):aH X Hi τ (.BoolOp op [a] pos) x:=by
 intro O σ H Q R q;exact we (zz ae) (ha O σ H _ R q)
theorem DS{a b:Expr}{aN:List Expr}{pos:Pos}{x y:RV}(ha:aH X Hi τ a x)(e:x.val=.bl true)(hb:aH X Hi τ (.BoolOp .And (b::aN) pos) y):aH X Hi τ (.BoolOp .And (a::b::aN) pos) y:=by
 intro O σ H Q R q;refine we (tz ae ae) ?_;exact ha O σ H _ R fun u H1 s1 r1=>⟨true,r1.bl R s1 e,iR (hb O σ H1 _ (R.ext s1) fun w H2 s2 r2=>q w H2 (s1.trans s2) (r2.back s1))⟩
theorem DT{a b:Expr}{aN:List Expr}{pos:Pos}{x:RV}(ha:aH X Hi τ a x)(e:x.val=.bl false):aH X Hi τ (.BoolOp .And (a::b::aN) pos) (sc (.bl false)):=by
 intro O σ H Q R q;refine we (tz ae ae) ?_;exact ha O σ H _ R fun u H1 s1 r1=>⟨false,r1.bl R s1 e,kU (q _ _ s1 CU)⟩
theorem or_f{a b:Expr}{aN:List Expr}{pos:Pos}{x y:RV}(ha:aH X Hi τ a x)(e:x.val=.bl false)(hb:aH X Hi τ (.BoolOp .Or (b::aN) pos) y):aH X Hi τ (.BoolOp .Or (a::b::aN) pos) y:=by
 intro O σ H Q R q;refine we (yb ae ae) ?_;exact ha O σ H _ R fun u H1 s1 r1=>⟨false,r1.bl R s1 e,kU (hb O σ H1 _ (R.ext s1) fun w H2 s2 r2=>q w H2 (s1.trans s2) (r2.back s1))⟩
theorem or_t{a b:Expr}{aN:List Expr}{pos:Pos}{x:RV}(ha:aH X Hi τ a x)(e:x.val=.bl true):aH X Hi τ (.BoolOp .Or (a::b::aN) pos) (sc (.bl true)):=by
 intro O σ H Q R q;refine we (yb ae ae) ?_;exact ha O σ H _ R fun u H1 s1 r1=>⟨true,r1.bl R s1 e,iR (q _ _ s1 CU)⟩
theorem Ah{c a b:Expr}{pos:Pos}{t:Bool}{r:RV}(hc:dh X Hi τ c t)(h:aH X Hi τ (if t=true then a else b) r):aH X Hi τ (.IfExp c a b pos) r:=by
 intro O σ H Q R q;refine we (tq i9 ae ae) ?_;refine hc O σ H _ R fun H1 s1=> ?_;cases t with
 | true=>exact iR ((show aH X Hi τ a r from h) O σ H1 _ (R.ext s1) fun w H2 s2 r2=>q w H2 (s1.trans s2) (r2.back s1))
 | false=>exact kU ((show aH X Hi τ b r from h) O σ H1 _ (R.ext s1) fun w H2 s2 r2=>q w H2 (s1.trans s2) (r2.back s1))
theorem sS{v:PV}{b:Bool}{H:Hp}{u:V}(h:lf v=some b)(r:Rp X.K Hi false v H u):BY X.K u H b:=by
 cases v with
 | non=>cases h;rw[Rp.non.mp r];rfl
 | bl c=>cases h;rw[Rp.bl.mp r];rfl
 | int i=>cases h;rw[Rp.int.mp r];rfl
 | str z =>
  have h:(if z.length<=LN then some ((z.length:Int) !=0)else none)=some b:=h
  split at h
  ·rename_i c
   cases h;rw[Rp.str.mp r];exact⟨by rw[dS];exact c,rfl⟩
  ·cases h
 | lst xs =>
  cases h;obtain⟨p,us,rfl,_,l,r⟩:=Rp.lst.mp r;have:=r.len;exact .inl ⟨us,l,by cases xs<;>cases us<;>simp_all⟩
 | tup xs =>
  cases h;obtain⟨p,us,rfl,l,r⟩:=Rp.tup.mp r;have:=r.len;exact .inr (.inl ⟨us,l,by cases xs<;>cases us<;>simp_all⟩)
 | dK ks vs =>
  cases h;unfold Rp at r;obtain⟨p,us,rfl,_,l,z,r⟩:=r;exact .inr (.inr ⟨_,l,by cases ks<;>cases us<;>simp_all⟩)
 | dT ks vs=>cases h
theorem zD{e:Expr}{x:RV}{b:Bool}(he:aH X Hi τ e x)(h:lf x.val=some b)(hp:∀whole,isTrue e X.env whole=(do let v<-whole;standAt e.pos;holding [v] (truthy v))):dh X Hi τ e b:=by
 intro O σ H Q R q;refine wt (tK ae hp) ?_;exact he O σ H _ R fun u H1 s1 r1=>⟨b,sS h (r1.val R s1),q _ s1⟩
theorem AM{a:Expr}{pos:Pos}{b:Bool}(ha:dh X Hi τ a b):dh X Hi τ (.UnaryOp .Not a pos) !b:=by
 intro O σ H Q R q;exact wt (zq i9) (ha O σ H _ R fun H1 s1=>q _ s1)
noncomputable def jI(X:Cx)(Hi:Hp)(τ:En)(e:Expr)(b:Bool):Prop:=∀(O:List Addr)(σ:L2.St)(H:Hp)(Q:Bool->Hp->Prop),ah X.K Hi O τ σ H->(∀H',aC H H' ->Q b H') ->
 ∀(whole:Sem Value)(pins:List (Addr×Obj))(s:Shared),Inv X pins σ H s->wpAny (model X.prog X.w) X.A (isTrue e X.env whole) (TP X pins σ Q) X.xe s
theorem Ci{e:Expr}:PW X e (fun σ H Q=>∀(whole:Sem Value)(pins:List (Addr×Obj))(s:Shared),Inv X pins σ H s->wpAny (model X.prog X.w) X.A (isTrue e X.env whole) (TP X pins σ Q) X.xe s):=fun wh pins s σ H Q I h=>h wh pins s I
theorem jI.tc{e:Expr}{b:Bool}(h:jI X Hi τ e b):dh X Hi τ e b:=fun O σ H Q R q pins s I=>h O σ H Q R q _ pins s I
theorem AJ{op:BoolOp}{a:Expr}{pos:Pos}{b:Bool}(ha:dh X Hi τ a b):jI X Hi τ (.BoolOp op [a] pos) b:=by
 intro O σ H Q R q wh pins s I;cases op with
 | And=>exact wT i9 wh pins s σ H Q I (ha O σ H Q R q)
 | Or=>exact tH i9 wh pins s σ H Q I (ha O σ H Q R q)
theorem vP{a b:Expr}{aN:List Expr}{pos:Pos}{t u:Bool}(ha:dh X Hi τ a t)(hb:if t=true then jI X Hi τ (.BoolOp .And (b::aN) pos) u else u=false):jI X Hi τ (.BoolOp .And (a::b::aN) pos) u:=by
 intro O σ H Q R q wh pins s I;refine zk i9 Ci wh pins s σ H Q I ?_;refine ha O σ H _ R fun H1 s1=> ?_;cases t with
 | true=>exact iR ((show jI X Hi τ _ u from hb) O σ H1 _ (R.ext s1) fun H2 s2=>q _ (s1.trans s2))
 | false =>
  have hb:u=false:=hb;subst hb;exact kU (q _ s1)
theorem yd{a b:Expr}{aN:List Expr}{pos:Pos}{t u:Bool}(ha:dh X Hi τ a t)(hb:if t=true then u=true else jI X Hi τ (.BoolOp .Or (b::aN) pos) u):jI X Hi τ (.BoolOp .Or (a::b::aN) pos) u:=by
 intro O σ H Q R q wh pins s I;refine yY i9 Ci wh pins s σ H Q I ?_;refine ha O σ H _ R fun H1 s1=> ?_;cases t with
 | false=>exact kU ((show jI X Hi τ _ u from hb) O σ H1 _ (R.ext s1) fun H2 s2=>q _ (s1.trans s2))
 | true =>
  have hb:u=true:=hb;subst hb;exact iR (q _ s1)
end
end IR
namespace L2
open PySem PySem.Spec PyProof.Rows
section
variable{X:Cx}
end
section
variable{K:W.Frag}
end
end L2
namespace IR
open PySem PySem.Spec PyProof.Rows L2
section
variable{X:Cx}{Hi:Hp}{τ:En}
theorem aV{e:Expr}{es:List Expr}{env:Env}(h:aS e=false):starEach (e::es) env=(false,eval e env)::starEach es env:=by
 cases e<;>first|rfl|cases h
theorem gp{env:Env}{pos:Pos}:∀{es:List Expr},(∀e∈es,aS e=false)->(backTo pos (starEach es env)).any (·.1)=false
 | [],_=>rfl
 | e::es,h=>by
  rw[aV (h e Ds)];show(false||(backTo pos (starEach es env)).any (·.1))=false;rw[gp fun x hx=>h x (Dq _ hx)];rfl
theorem vN:lC X Hi τ [] []:=by
 intro O σ H Q R q;exact wa av (q _ _ (aC.refl _) rfl)
theorem ky{e:Expr}{es:List Expr}{r:RV}{rs:List RV}(he:aH X Hi τ e r)(hs:aS e=false)(hr:lC X Hi τ es rs):lC X Hi τ (e::es) (r::rs):=by
 intro O σ H Q R q;refine wa (aT ae n8 (aV hs)) ?_;refine he O σ H _ R fun u H1 s1 r1=>hr O σ H1 _ (R.ext s1) fun us H2 s2 r2=> ?_;exact q _ _ (s1.trans s2) ⟨u,us,rfl,r1.ext s2,r2.back s1⟩
theorem AV{es:List Expr}{pos:Pos}{rs:List RV}{vs:List PV}{n:Bool}{r:RV}(h:lC X Hi τ es rs)(hk:keeps rs=some (vs,n))(hn:qf vs n=some r):aH X Hi τ (.List es pos) r:=by
 obtain⟨hz,rfl⟩:=xA hn;intro O σ H Q R q;refine we (tf n8) ?_;refine h O σ H _ R fun us H1 s1 r1=> ?_;have k:=r1.keeps R s1 hk;have hl:=k.len;exact⟨by rw[dS,<-hl];exact hz,fun p hp=>q _ _ (s1.trans (aJ hp _)) (dB s1 hp k)⟩
theorem sR{es:List Expr}{m:Nat}{pos:Pos}{rs:List RV}{vs:List PV}{n:Bool}{r:RV}(h:lC X Hi τ es rs)(hk:keeps rs=some (vs,n))(hn:qe vs n=some r):aH X Hi τ (.Tuple es m pos) r:=by
 obtain⟨hz,rfl⟩:=wz hn;intro O σ H Q R q;refine we (zx n8) ?_;refine h O σ H _ R fun us H1 s1 r1=> ?_;have k:=r1.keeps R s1 hk;have hl:=k.len;exact⟨by rw[dS,<-hl];exact hz,fun p hp=>q _ _ (s1.trans (aJ hp _)) (Rp.tup.mpr ⟨p,us,rfl,cJ.of (pY R s1 hp),k.mono (aK (aJ hp _))⟩)⟩
theorem xh{pos:Pos}:aH X Hi τ (.Dict [] [] pos) (.owd (.dK []) [] true):=by
 intro O σ H Q R q;refine we fF ?_;intro p hp;exact q _ _ (aJ hp _) ⟨p,[],_,rfl,hp,aD,⟨rfl,rfl⟩,.nil⟩
theorem pf{k:ac}{ke v:Expr}{r:RV}{w:PV}{n:Bool}{pos:Pos}{tk:TE}(hk:PE X ke tk)(hk2:∀σ H Q,Q (kV k) H->tk σ H Q)(h:aH X Hi τ v r)(hw:r.keep=some (w,n))(hi:imm w=true):aH X Hi τ (.Dict [some ke] [v] pos) (.owd (.dK [k]) [w] true):=by
 intro O σ H Q R q;refine we (wk (tR hk ae wY) rfl rfl (by intro z;cases z) (by show 1<=15;decide)) ?_;intro p hp;have s0:=aJ hp (.dK []);refine hk2 σ _ _ ?_;refine h O σ _ _ (R.ext s0) fun u H2 s2 r2=> ?_;have kp:=r2.keep (R.ext s0) s2 hw;refine⟨s2 _ _ aD,[(k,u)],rfl,by show 1<=15;decide,?_⟩;have e:eK [] [(k,u)]=[(k,u)]:=by simp[eK,cW]
 rw[e];have ss:aC H (L2.upd H2 p (.dK [(k,u)])):=fun b o z=>by rw[aB (aG z hp)];exact s2 _ _ (s0 _ _ z)
 refine q _ _ ss ⟨p,[u],_,rfl,hp,aD,⟨rfl,rfl⟩,.cons (Rp.imm hi ⟨fun b xs z=> ?_,fun b o xs z=> ?_⟩ kp) .nil⟩
 ·have hne:b≠p:=fun c=>by
   subst c;have:=aW _ _ z;rw[s2 _ _ aD]at this;cases this
  unfold aM at z ⊢
  split at z
  ·cases z
  ·rename_i nb
   rw[Dz nb];unfold del;rw[Dz hne,aB hne];exact z
 ·have hne:b≠p:=fun c=>by
   subst c;have:=aW _ _ z;rw[s2 _ _ aD]at this;cases this
  unfold aM at z ⊢
  split at z
  ·cases z
  ·rename_i nb
   rw[Dz nb];unfold del;rw[Dz hne,aB hne];exact z
noncomputable def fY(O:List Addr)(G:Hp):Prop:=∀l∈O,(∀xs,G l≠some (.tup xs))/\∀o xs,G l≠some (.frz o (.tup xs))
theorem Mo.noTup{o:HO}{G:Hp}{l:Addr}(m:Mo o)(e:G l=some o):(∀xs,G l≠some (.tup xs))/\∀o xs,G l≠some (.frz o (.tup xs)):=by
 obtain⟨b,us,m⟩:=m;refine⟨fun xs z=> ?_,fun o xs z=> ?_⟩<;>(rw[e]at z;cases z;cases b<;>first|cases m.1|cases m)
theorem fY.del{O:List Addr}{G:Hp}{p:Addr}(h:fY O G):fY O (IR.del G p):=fun l hl=>by
 refine⟨fun xs e=> ?_,fun o xs e=> ?_⟩
 ·unfold IR.del at e
  split at e
  ·cases e
  ·exact(h l hl).1 xs e
 ·unfold IR.del at e
  split at e
  ·cases e
  ·exact(h l hl).2 o xs e
theorem fY.tups{O:List Addr}{G:Hp}(h:fY O G):ot G (aM G O):=by
 refine⟨fun b xs e=> ?_,fun b o xs e=> ?_⟩
 ·unfold aM
  rw[Dz fun z=>(h b z).1 xs e];exact e
 ·unfold aM
  rw[Dz fun z=>(h b z).2 o xs e];exact e
mutual
theorem Rp.avoid{K:W.Frag}{Hj:Hp}{O:List Addr}(hO:∀l∈O,Hj l≠none):∀{v:PV}{G:Hp}{u:V},fY O G->Rp K Hj true v G u->Rp K Hj true v (aM G O) u
 | .non,_,_,_,h=>by unfold Rp at h ⊢;exact h
 | .bl _,_,_,_,h=>by unfold Rp at h ⊢;exact h
 | .int _,_,_,_,h=>by unfold Rp at h ⊢;exact h
 | .str _,_,_,_,h=>by unfold Rp at h ⊢;exact h
 | .lst xs,G,_,t,h=>by
  unfold Rp at h ⊢;obtain⟨p,us,e,q,l,r⟩:=h;obtain⟨q1,q2⟩:=q rfl;have q3:aM G O p=some (.lst us):=by
   unfold aM;rw[Dz fun z=>hO p z q1];exact q2
  exact⟨p,us,e,fun _=>⟨q1,q3⟩,bJ.of q3,by rw[<- fL];exact aF.avoid hO t.del r⟩
 | .tup xs,_,_,t,h=>by
  unfold Rp at h ⊢;obtain⟨p,us,e,l,r⟩:=h;exact⟨p,us,e,t.tups.at l,aF.avoid hO t r⟩
 | .dK ks vs,G,_,t,h=>by
  unfold Rp at h ⊢;obtain⟨p,us,e,q,l,z,r⟩:=h;refine⟨p,us,e,q,?_,z,by rw[<- fL];exact aF.avoid hO t.del r⟩;unfold aM;rw[Dz fun z=>hO p z (q rfl)];exact l
 | .dT ks vs,G,_,t,h=>by
  unfold Rp at h ⊢;obtain⟨p,us,e,q,l,z,r⟩:=h;refine⟨p,us,e,q,?_,z,by rw[<- fL];exact aF.avoid hO t.del r⟩;unfold aM;rw[Dz fun z=>hO p z (q rfl)];exact l
theorem aF.avoid{K:W.Frag}{Hj:Hp}{O:List Addr}(hO:∀l∈O,Hj l≠none):∀{xs:List PV}{G:Hp}{us:List V},fY O G->aF K Hj true xs G us->aF K Hj true xs (aM G O) us
 | [],_,_,_,h=>by unfold aF at h ⊢;exact h
 | x::xs,_,_,t,h=>by
  unfold aF at h ⊢;obtain⟨u,r,e,a,b⟩:=h;exact⟨u,r,e,Rp.avoid hO t a,aF.avoid hO t b⟩
end
theorem vy{O:List Addr}{σ:L2.St}{H H1 H' :Hp}{v:PV}{u:V}(R:ah X.K Hi O τ σ H)(s1:aC H H1)(s:aC H1 H')(h:Rp X.K H1 true v H' u):aZ X.K Hi O H H' (kA v) u:=by
 have e1:∀p,H1 p=none->Hi p=none:=fun p hp=>R.same.free (s1.free hp);have hO:∀l∈O,H1 l≠none:=fun l hl z=>by
  obtain⟨us,e,_⟩:=(R.own l hl).2;rw[s1 _ _ e]at z;cases z
 have hT:fY O H' :=fun l hl=>by
  obtain⟨us,e,mo⟩:=(R.own l hl).2;have e' :=s _ _ (s1 _ _ e);exact mo.noTup e'
 have gen:Rp X.K Hi true v (aM H' O) u:=(Rp.avoid hO hT h).entry fun _=>e1;cases v with
 | lst xs =>
  obtain⟨p,us,e,q,l,r⟩:=Rp.lst.mp h;obtain⟨q1,q2⟩:=q rfl;exact⟨p,us,e,s1.free q1,q2,(aF.avoid hO hT.del r).entry fun _=>e1⟩
 | _=>exact gen
theorem xy{cd:Nat->List PV->Option PV}{ct:Ct}(C:bQ cd X ct){x:Str}{f:Nat}{e:Expr}{es:List Expr}{p pos:Pos}{rs:List RV}{v:PV}(hx:uH x=false)(hg:ct.S.lookup x=some .globalImplicit)(hf:ct.F.lookup x=some f)
  (hs:∀a∈e::es,aS a=false) (ha:lC X Hi τ (e::es) rs) (hv:cd f (rs.map RV.val)=some v):aH X Hi τ (.Call (.Name x p) (e::es) [] pos) (kA v):=by
 intro O σ H Q R q;obtain⟨k,a,fd,ps,F,hr,hm,kp,bd⟩:=C.fns x f hf;have g:Gl X x:=by
  show X.env.scope.names.lookup x=_;rw[C.S];exact hg
 refine we (kN F hr g hm kp bd .nil uA n8 (dC hx).1 (aV (hs e Ds)) (gp fun b hb=>hs b (Dq _ hb))) ?_;refine ha O σ H _ R fun us H1 s1 r1=> ?_;have vs:=r1.vals R s1;rw[Ey];exact⟨_,v,vs.entry (fun z=>by cases z),hv,fun u H' s' ru=>q _ _ (s1.trans s') (vy R s1 s' ru)⟩
theorem iV{cd:Nat->List PV->Option PV}{ct:Ct}(C:bQ cd X ct){x:Str}(h:own ct x=true):Gl X x/\X.mg x=none:=by
 unfold own at h;rw[Du]at h;refine⟨?_,C.bl x h.1⟩;show X.env.scope.names.lookup x=_;rw[C.S]
 simpa using h.2
theorem ga{cd:Nat->List PV->Option PV}{ct:Ct}(C:bQ cd X ct){x:Str}{id:String}{a:Expr}{p pos:Pos}{ra r:RV}{rr:List V->Hp->VK->Prop}(hc:bI X (.builtin id) rr)(ho:own ct x=true)(hb:bootBuiltins x=some (.builtin id))(hx:uH x=false)(hs:aS a=false)(ha:aH X Hi τ a ra)
  (k:∀(O:List Addr)(σ:L2.St)(H H2:Hp)(u:V)(Q:VK),ah X.K Hi O τ σ H->aC H H2->aZ X.K Hi O H H2 ra u->(∀w H3,aC H2 H3->aZ X.K Hi O H H3 r w->Q w H3)->rr [u] H2 Q):aH X Hi τ (.Call (.Name x p) [a] [] pos) r:=by
 intro O σ H Q R q;obtain⟨g,hm⟩:=iV C ho;refine we (fG hc g hm hb (aT ae av (aV hs)) (dC hx).2.2 (dC hx).1 (aV hs) rfl) ?_;exact ha O σ H _ R fun u H1 s1 r1=>k O σ H H1 u Q R s1 r1 fun w H3 s3 r3=>q w H3 (s1.trans s3) r3
theorem pE{cd:Nat->List PV->Option PV}{ct:Ct}(C:bQ cd X ct){x:Str}{id:String}{a:Expr}{p pos:Pos}{ra r:RV}{rr:List V->Hp->VK->Prop}(hc:bI X (.type id) rr)(ho:own ct x=true)(hb:bootBuiltins x=some (.type id))(hx:uH x=false)(hs:aS a=false)(ha:aH X Hi τ a ra)
  (k:∀(O:List Addr)(σ:L2.St)(H H2:Hp)(u:V)(Q:VK),ah X.K Hi O τ σ H->aC H H2->aZ X.K Hi O H H2 ra u->(∀w H3,aC H2 H3->aZ X.K Hi O H H3 r w->Q w H3)->rr [u] H2 Q):aH X Hi τ (.Call (.Name x p) [a] [] pos) r:=by
 intro O σ H Q R q;obtain⟨g,hm⟩:=iV C ho;refine we (fk hc g hm hb (aT ae av (aV hs)) (dC hx).2.2 (dC hx).1 (aV hs) rfl) ?_;exact ha O σ H _ R fun u H1 s1 r1=>k O σ H H1 u Q R s1 r1 fun w H3 s3 r3=>q w H3 (s1.trans s3) r3
theorem yt{cd:Nat->List PV->Option PV}{ct:Ct}(C:bQ cd X ct){x:Str}{id:String}{a b:Expr}{p pos:Pos}{ra rb r:RV}{rr:List V->Hp->VK->Prop}(hc:bI X (.builtin id) rr)(ho:own ct x=true)(hb:bootBuiltins x=some (.builtin id))(hx:uH x=false)(hs:aS a=false)(hs2:aS b=false)(ha:aH X Hi τ a ra)(hb' :aH X Hi τ b rb)
  (k:∀(O:List Addr)(σ:L2.St)(H H2:Hp)(u v:V)(Q:VK),ah X.K Hi O τ σ H->aC H H2->aZ X.K Hi O H H2 ra u->aZ X.K Hi O H H2 rb v->(∀w H3,aC H2 H3->aZ X.K Hi O H H3 r w->Q w H3)->rr [u,v] H2 Q):aH X Hi τ (.Call (.Name x p) [a,b] [] pos) r:=by
 intro O σ H Q R q;obtain⟨g,hm⟩:=iV C ho;refine we (fG hc g hm hb (aT ae (aT ae av (aV hs2)) (aV hs)) (dC hx).2.2 (dC hx).1 (aV hs) (gp fun c hc=>by simp at hc;subst hc;exact hs2)) ?_;exact ha O σ H _ R fun u H1 s1 r1=>hb' O σ H1 _ (R.ext s1) fun v H2 s2 r2=>k O σ H H2 u v Q R (s1.trans s2) (r1.ext s2) (r2.back s1) fun w H3 s3 r3=>q w H3 (s1.trans (s2.trans s3)) r3
theorem nE:∀{xs:List PV}{bs:List Bool}{H:Hp}{us:List V},jo xs=some bs->aF X.K Hi false xs H us->us=bs.map V.bl
 | [],bs,_,_,h,r=>by cases h;unfold aF at r;exact r
 | x::xs,bs,_,_,h,r=>by
  unfold aF at r;obtain⟨u,ws,rfl,a,b⟩:=r;cases x with
  | bl c =>
   have h:(jo xs).map (c::·)=some bs:=h;cases e:jo xs with
   | none=>rw[e]at h;cases h
   | some ds =>
    rw[e]at h;cases h;rw[Rp.bl.mp a,nE e b];rfl
  | _=>cases h
theorem cr:∀{xs:List PV}{bs:List Int}{H:Hp}{us:List V},aP xs=some bs->aF X.K Hi false xs H us->us=bs.map V.int
 | [],bs,_,_,h,r=>by cases h;unfold aF at r;exact r
 | x::xs,bs,_,_,h,r=>by
  unfold aF at r;obtain⟨u,ws,rfl,a,b⟩:=r;cases x with
  | int c =>
   have h:(aP xs).map (c::·)=some bs:=h;cases e:aP xs with
   | none=>rw[e]at h;cases h
   | some ds =>
    rw[e]at h;cases h;rw[Rp.int.mp a,cr e b];rfl
  | _=>cases h
theorem gx:∀{xs:List PV}{bs:List Str}{H:Hp}{us:List V},dQ xs=some bs->aF X.K Hi false xs H us->us=bs.map V.str
 | [],bs,_,_,h,r=>by cases h;unfold aF at r;exact r
 | x::xs,bs,_,_,h,r=>by
  unfold aF at r;obtain⟨u,ws,rfl,a,b⟩:=r;cases x with
  | str c =>
   have h:(dQ xs).map (c::·)=some bs:=h;cases e:dQ xs with
   | none=>rw[e]at h;cases h
   | some ds =>
    rw[e]at h;cases h;rw[Rp.str.mp a,gx e b];rfl
  | _=>cases h
end
end IR
namespace L2
open PySem PySem.Spec PyProof.Rows
end L2
namespace IR
open PySem L2
section
variable{X:Cx}{Hi:Hp}{τ:En}
theorem wX{x:PV}{q:Int×Int}(h:tQ x=some q):x=bg q:=by
 cases x with
 | tup xs =>
  have h:((aP xs).bind fun ns=>match ns with
   | [a,b]=>some (a,b)
   | _=>none)=some q:=h
  cases e:aP xs with
  | none=>rw[e]at h;cases h
  | some ns =>
   rw[e]at h
   match ns,h with
   | [a,b],h =>
    cases h;have:xs=[PV.int a,PV.int b]:=by
     have key:∀(xs:List PV)(ns:List Int),aP xs=some ns->xs=ns.map PV.int:=by
      intro xs
      induction xs with
      | nil=>intro ns z;cases z;rfl
      | cons y r ih =>
       intro ns z;cases y with
       | int i =>
        have z:(aP r).map (i::·)=some ns:=z;cases e2:aP r with
        | none=>rw[e2]at z;cases z
        | some m=>rw[e2]at z;cases z;rw[ih m e2];rfl
       | _=>cases z
     exact key xs _ e
    subst this;rfl
 | _=>cases h
theorem mC:∀{xs:List PV}{ps:List (Int×Int)},fC xs=some ps->xs=ps.map bg
 | [],_,h=>by cases h;rfl
 | x::r,ps,h=>by
  have h:((tQ x).bind fun q=>(fC r).map (q::·))=some ps:=h;cases e:tQ x with
  | none=>rw[e]at h;cases h
  | some q =>
   rw[e]at h;have h:(fC r).map (q::·)=some ps:=h;cases e2:fC r with
   | none=>rw[e2]at h;cases h
   | some m =>
    rw[e2]at h;cases h;rw[wX e,mC e2];rfl
theorem aF.prs{n:Bool}{H:Hp}:∀{ps:List (Int×Int)}{us:List V},aF X.K Hi n (ps.map bg) H us->Bb X.K H us ps
 | [],us,h=>by
  have h:us=[]:=by unfold aF at h;exact h
  subst h;exact .nil
 | q::ps,us,h=>by
  rw[D2]at h;unfold aF at h;obtain⟨u,r,rfl,h1,h2⟩:=h;obtain⟨p,ws,rfl,l,rr⟩:=Rp.tup.mp h1;have e:ws=[V.int q.1,V.int q.2]:=by
   have:=(aF.ints (K:=X.K) (Hi:=Hi) (n:=n) (H:=H) (xs:=[q.1,q.2]) (us:=ws)).mp rr;exact this
  subst e;exact .cons l (aF.prs h2)
theorem aF.pick{n:Bool}{H:Hp}{xs:List PV}{us:List V}(r:aF X.K Hi n xs H us):∀{js:List Nat},(∀j∈js,j<us.length)->aF X.K Hi n (js.map fun i=>xs.getD i .non) H (js.map fun i=>us.getD i .non)
 | [],_=>.nil
 | j::js,h=>by
  have hj:=h j Ds;obtain⟨x,hx,rx⟩:=r.at' (i:=j) (u:=us[j]) (Dw hj);refine .cons ?_ (aF.pick r fun i hi=>h i (Dq _ hi));dsimp only;rw[Dt,hx,Dt,Dw hj];exact rx
theorem dA(ps:List (Int×Int)):(dM ps).Perm ps:=List.mergeSort_perm _ _
theorem sk(ps:List (Int×Int)):(dM ps).Pairwise fun a b=>SW.ck a<=SW.ck b:=by
 have:=List.pairwise_mergeSort (le:=fun a b:Int×Int=>decide (SW.ck a<=SW.ck b)) (fun a b c h1 h2=>by simp only[FI]at *;omega) (fun a b=>by simp only[Fw,FI];omega) ps;exact this.imp fun h=>by simpa using h
theorem uV{a b:Int×Int}(ha:0<=a.2/\a.2<1000)(hb:0<=b.2/\b.2<1000)(h:SW.ck a=SW.ck b):a=b:=by
 unfold SW.ck at h;exact Prod.ext (by omega) (by omega)
theorem kF{ps qs:List (Int×Int)}(hb:∀q∈ps,0<=q.2/\q.2<1000)(p:qs.Perm ps)(s:qs.Pairwise fun a b=>SW.ck a<=SW.ck b):qs=dM ps :=
 List.Perm.eq_of_pairwise (le:=fun a b=>SW.ck a<=SW.ck b) (fun a b ha hb' h1 h2=>uV (hb _ (p.mem_iff.mp ha)) (hb _ ((dA ps).mem_iff.mp hb')) (by omega)) s (sk ps) (p.trans (dA ps).symm)
theorem n5{α:Type}(d:α)(xs:List α):(List.range xs.length).map (fun i=>xs.getD i d)=xs:=by
 apply List.ext_getElem (by simp)
 intro i h1 h2;simp[h2]
theorem mR:∀ps:List (Int×Int),imms (ps.map bg)=true
 | []=>rfl
 | q::ps=>by
  show(imm (bg q)&&imms (ps.map bg))=true;rw[mR ps];rfl
theorem sj{cd:Nat->List PV->Option PV}{ct:Ct}(C:bQ cd X ct){a:Expr}{p pos:Pos}{ra r:RV}{xs:List PV}(ho:own ct ("sorted":Str)=true)(hs:aS a=false)(ha:aH X Hi τ a ra)(e:ra.val=.lst xs)(h:li xs=some r) :
  aH X Hi τ (.Call (.Name "sorted" p) [a] [] pos) r:=by
 unfold li at h;cases eb:fC xs with
 | none=>rw[eb]at h;cases h
 | some ps =>
  rw[eb]at h;have h:(if ps.length<64/\ps.all (fun q=>decide (0<=q.2)&&decide (q.2<1000))=true then some (RV.own ((dM ps).map bg) true)else none)=some r:=h
  split at h
  ·rename_i c
   cases h;refine ga C fV ho PyProof.Rows.boot_sorted (by decide) hs ha fun O σ H H2 u Q R s r q=> ?_;obtain⟨p,us,rfl,l,r⟩:=r.lst R s e;have ex:=mC eb;subst ex;have pr:=r.prs;have hl:=pr.len;have hb:∀q∈ps,0<=q.2/\q.2<1000:=fun q hq=>by
    have:=EG.mp c.2 q hq
    simpa using this
   refine⟨p,us,ps,rfl,l,pr,by omega,hb,fun d js hd pm pw=>q _ _ (aJ hd _) (dB s hd ?_)⟩;have hj:∀j∈js,j<us.length:=fun j hj=>Eb.mp (pm.mem_iff.mp hj);have e1:js.map (fun i=>ps.getD i (0,0))=dM ps:=by
    refine kF hb ?_ ?_
    ·have:=pm.map fun i=>ps.getD i (0,0)
     rw[hl,n5]at this;exact this
    ·rw[Fk]at pw ⊢
     exact pw
   have e2:js.map (fun i=>(ps.map bg).getD i .non)=(dM ps).map bg:=by
    rw[<- e1,EU];refine Ep fun i hi=> ?_;have:=hj i hi;have lt:i<ps.length:=by omega
    simp[lt]
   have rp:=r.pick hj;rw[e2]at rp;exact rp.imm (mR _) (R.ext s).tups
  ·cases h
end
end IR
namespace IR
open PySem PySem.Spec PyProof.Rows L2
section
variable{X:Cx}{Hi:Hp}{τ:En}
theorem uP{cd:Nat->List PV->Option PV}{ct:Ct}(C:bQ cd X ct){a:Expr}{p pos:Pos}{ra:RV}{n:Nat}(ho:own ct ("len":Str)=true)(hs:aS a=false)(ha:aH X Hi τ a ra)(h:fI ra.val=some n) :
  aH X Hi τ (.Call (.Name "len" p) [a] [] pos) (sc (.int n)):=by
 cases e:ra.val with
 | str z =>
  rw[e]at h;have h:(if z.length<=LN then some z.length else none)=some n:=h
  split at h
  ·rename_i c
   cases h;exact ga C kr ho F2 (by decide) hs ha fun O σ H H2 u Q R s r q=>⟨z,by rw[r.str R s e],by rw[dS];exact c,q _ _ (aC.refl _) sw⟩
  ·cases h
 | lst xs =>
  rw[e]at h;cases h;refine ga C dH ho F2 (by decide) hs ha fun O σ H H2 u Q R s r q=> ?_;obtain⟨p,us,rfl,l,r⟩:=r.lst R s e;exact⟨p,us,rfl,.inl l,by rw[<- r.len];exact q _ _ (aC.refl _) sw⟩
 | tup xs =>
  rw[e]at h;cases h;refine ga C dH ho F2 (by decide) hs ha fun O σ H H2 u Q R s r q=> ?_;obtain⟨p,us,rfl,l,r⟩:=r.tup R s e;exact⟨p,us,rfl,.inr l,by rw[<- r.len];exact q _ _ (aC.refl _) sw⟩
 | dK ks vs =>
  rw[e]at h;cases h;refine ga C oZ ho F2 (by decide) hs ha fun O σ H H2 u Q R s r q=> ?_;have z:=r.val R s;rw[e]at z;unfold Rp at z;obtain⟨p,us,rfl,_,hp,hl,_⟩:=z;refine⟨p,_,rfl,.inl hp,?_⟩;have:(ks.zip us).length=ks.length:=by rw[List.length_zip,<-hl,Nat.min_self]
  rw[this];exact q _ _ (aC.refl _) sw
 | _=>rw[e]at h;cases h
theorem vh:∀(ks:List ac)(us:List V),ks.length=us.length->(ks.zip us).map (·.2)=us:=by
 intro ks
 induction ks with
 | nil=>intro us h;cases us with|nil=>rfl|cons _ _=>cases h
 | cons k ks ih=>intro us h;cases us with|nil=>cases h|cons u us=>simp at h;simp[ih us h]
theorem uM{cd:Nat->List PV->Option PV}{ct:Ct}(C:bQ cd X ct){o:Expr}{p ap cp pos:Pos}{ro r:RV}(ho:own ct ("list":Str)=true)(hp:plainB o=true)(hl:(ap.endLine==cp.line)=true)(h0:aH X Hi τ o ro)(h:lF .lvals [ro]=some r) :
  aH X Hi τ (.Call (.Name "list" p) [.Call (.Attribute o "values" ap) [] [] cp] [] pos) r:=by
 have hbase:attributeBase o "values" X.env (eval o X.env)=eval o X.env:=by
  cases o<;>first|rfl|cases hp
 have h:yi ro.val=some r:=h;cases e:ro.val with
 | dK ks vs =>
  rw[e]at h;have h:(if ks.length<=LN then(aP vs).map (fun ns=>RV.own (ns.map PV.int) true)else none)=some r:=h
  split at h
  ·rename_i hz
   cases eb:aP vs with
   | none=>rw[eb]at h;cases h
   | some ns =>
    rw[eb]at h;cases h;intro O σ H Q R q;obtain⟨g,hm⟩:=iV C ho;have hs:aS (.Call (.Attribute o "values" ap) [] [] cp)=false:=rfl;refine we (fk (ij C.calm) g hm PyProof.Rows.boot_list (aT (tw Fg F8 PySem.F.type_dict_values jZ ae hbase hl) av (aV hs)) (by decide) (by decide) (aV hs) rfl) ?_;refine h0 O σ H _ R fun u H1 s1 r1=> ?_;have z:=r1.val R s1;rw[e]at z;unfold Rp at z;obtain⟨a,us,rfl,_,ha,hlen,rr⟩:=z;refine⟨.inr (.inr (.inl ⟨rfl,.inl ⟨_,ha⟩⟩)),a,_,rfl,rfl,ha,fun v hv=> ?_⟩;have eu:=cr eb rr;have hzz:ks.length<=16777216:=hz;have s2:=s1.trans (aJ hv (iu v a));refine⟨v,a,_,rfl,aD,by rw[aB (aG ha hv)];exact ha,by rw[List.length_zip,<-hlen,Nat.min_self,Ej];exact hzz,fun b hb=> ?_⟩;rw[vh ks us hlen];refine q _ _ (s2.trans (aJ hb _)) (dB s2 hb (aF.ints.mpr eu))
  ·cases h
 | _=>rw[e]at h;cases h
theorem v7{cd:Nat->List PV->Option PV}{ct:Ct}(C:bQ cd X ct){o:Expr}{p ap cp pos:Pos}{ro r:RV}(ho:own ct ("sum":Str)=true)(hp:plainB o=true)(hl:(ap.endLine==cp.line)=true)(h0:aH X Hi τ o ro)(h:lF .sumv [ro]=some r) :
  aH X Hi τ (.Call (.Name "sum" p) [.Call (.Attribute o "values" ap) [] [] cp] [] pos) r:=by
 have hbase:attributeBase o "values" X.env (eval o X.env)=eval o X.env:=by
  cases o<;>first|rfl|cases hp
 have h:(match ro.val with
   | .dK _ vs=>(aP vs).map fun ns=>sc (.int ns.sum)
   | _=>none)=some r:=h
 cases e:ro.val with
 | dK ks vs =>
  simp only[e]at h;cases eb:aP vs with
  | none=>rw[eb]at h;cases h
  | some ns =>
   rw[eb]at h;cases h;intro O σ H Q R q;obtain⟨g,hm⟩:=iV C ho;have hs:aS (.Call (.Attribute o "values" ap) [] [] cp)=false:=rfl;refine we (fG (jG C.calm) g hm boot_sum (aT (tw Fg F8 PySem.F.type_dict_values jZ ae hbase hl) av (aV hs)) (by decide) (by decide) (aV hs) rfl) ?_;refine h0 O σ H _ R fun u H1 s1 r1=> ?_;have z:=r1.val R s1;rw[e]at z;unfold Rp at z;obtain⟨a,us,rfl,_,ha,hlen,rr⟩:=z;refine⟨.inr (.inr (.inl ⟨rfl,.inl ⟨_,ha⟩⟩)),a,_,rfl,rfl,ha,fun v hv=> ?_⟩;have eu:=cr eb rr;refine⟨v,a,_,ns,rfl,aD,by rw[aB (aG ha hv)];exact ha,?_,q _ _ (s1.trans (aJ hv _)) sw⟩;rw[<- eu];have key:∀(ks:List ac)(us:List V),ks.length=us.length->(ks.zip us).map (·.2)=us:=by
    intro ks
    induction ks with
    | nil=>intro us h;cases us with|nil=>rfl|cons _ _=>cases h
    | cons k ks ih=>intro us h;cases us with|nil=>cases h|cons u us=>simp at h;simp[ih us h]
   exact key ks us hlen
 | _=>simp only[e]at h;cases h
theorem gE{x:Str}{k:Nat}{f:Bf}(h:nH x k=some f):(x="len"/\k=1/\f=.len)\/(x="int"/\k=1/\f=.int)\/(x="list"/\k=1/\f=.list)\/(x="tuple"/\k=1/\f=.tuple)\/(x="all"/\k=1/\f=.all)\/(x="min"/\k=2/\f=.min)\/(x="max"/\k=2/\f=.max)\/(x="abs"/\k=1/\f=.abs)\/(x="any"/\k=1/\f=.any)\/(x="sum"/\k=1/\f=.sum)\/(x="sorted"/\k=1/\f=.sorted):=by
 unfold nH at h
 split at h
 ·rename_i c;rw[Du]at c;cases h;exact .inl ⟨EN c.1,EN c.2,rfl⟩
 split at h
 ·rename_i c;rw[Du]at c;cases h;exact .inr (.inl ⟨EN c.1,EN c.2,rfl⟩)
 split at h
 ·rename_i c;rw[Du]at c;cases h;exact .inr (.inr (.inl ⟨EN c.1,EN c.2,rfl⟩))
 split at h
 ·rename_i c;rw[Du]at c;cases h;exact .inr (.inr (.inr (.inl ⟨EN c.1,EN c.2,rfl⟩)))
 split at h
 ·rename_i c;rw[Du]at c;cases h;exact .inr (.inr (.inr (.inr (.inl ⟨EN c.1,EN c.2,rfl⟩))))
 split at h
 ·rename_i c;rw[Du]at c;cases h;exact .inr (.inr (.inr (.inr (.inr (.inl ⟨EN c.1,EN c.2,rfl⟩)))))
 split at h
 ·rename_i c;rw[Du]at c;cases h;exact .inr (.inr (.inr (.inr (.inr (.inr (.inl ⟨EN c.1,EN c.2,rfl⟩))))))
 split at h
 ·rename_i c;rw[Du]at c;cases h;exact .inr (.inr (.inr (.inr (.inr (.inr (.inr (.inl ⟨EN c.1,EN c.2,rfl⟩)))))))
 split at h
 ·rename_i c;rw[Du]at c;cases h;exact .inr (.inr (.inr (.inr (.inr (.inr (.inr (.inr (.inl ⟨EN c.1,EN c.2,rfl⟩))))))))
 split at h
 ·rename_i c;rw[Du]at c;cases h;exact .inr (.inr (.inr (.inr (.inr (.inr (.inr (.inr (.inr (.inl ⟨EN c.1,EN c.2,rfl⟩)))))))))
 split at h
 ·rename_i c;rw[Du]at c;cases h;exact .inr (.inr (.inr (.inr (.inr (.inr (.inr (.inr (.inr (.inr (⟨EN c.1,EN c.2,rfl⟩))))))))))
 cases h
theorem vK{cd:Nat->List PV->Option PV}{ct:Ct}(C:bQ cd X ct){x:Str}{f:Bf}{a:Expr}{p pos:Pos}{ra r:RV}(ho:own ct x=true)(hb:il x 1=some f)(hs:aS a=false)(ha:aH X Hi τ a ra)(h:lF f [ra]=some r) :
  aH X Hi τ (.Call (.Name x p) [a] [] pos) r:=by
 have hb:nH x 1=some f:=hb
 rcases gE hb with⟨rfl,_,rfl⟩|⟨rfl,_,rfl⟩|⟨rfl,_,rfl⟩|⟨rfl,_,rfl⟩|⟨rfl,_,rfl⟩|⟨_,z,_⟩|⟨_,z,_⟩|⟨rfl,_,rfl⟩|⟨rfl,_,rfl⟩|⟨rfl,_,rfl⟩|⟨rfl,_,rfl⟩
 ·have h:(fI ra.val).map (fun n=>sc (.int (n:Nat)))=some r:=h
  cases e:fI ra.val with
  | none=>rw[e]at h;cases h
  | some n =>
   rw[e]at h;cases h;exact uP C ho hs ha e
 ·unfold lF at h
  cases e:ra.val with
  | int i =>
   simp only[e]at h;cases h;exact pE C jn ho PyProof.Rows.boot_int (by decide) hs ha fun O σ H H2 u Q R s r q=>.inl ⟨i,by rw[r.int R s e],q _ _ (aC.refl _) sw⟩
  | bl i =>
   simp only[e]at h;cases h;exact pE C jn ho PyProof.Rows.boot_int (by decide) hs ha fun O σ H H2 u Q R s r q=>.inr ⟨i,by rw[r.bl R s e],q _ _ (aC.refl _) sw⟩
  | _=>simp only[e]at h;cases h
 ·have h:(match ra.its with|some (xs,n)=>some (RV.own xs n)|none=>none)=some r:=h
  cases e:ra.its with
  | none=>rw[e]at h;cases h
  | some w =>
   obtain⟨xs,n⟩:=w;rw[e]at h;cases h;refine pE C kq ho PyProof.Rows.boot_list (by decide) hs ha fun O σ H H2 u Q R s r q=> ?_;obtain⟨p,us,rfl,l,r⟩:=r.its R s e;exact⟨p,us,rfl,l.imp (·.1) (·.1),fun l2 hl=>q _ _ (aJ hl _) (dB s hl r)⟩
 ·have h:(match ra.its with|some (xs,n)=>some (RV.frz (.tup xs) n)|none=>none)=some r:=h
  cases e:ra.its with
  | none=>rw[e]at h;cases h
  | some w =>
   obtain⟨xs,n⟩:=w;rw[e]at h;cases h;refine pE C jF ho PyProof.Rows.boot_tuple (by decide) hs ha fun O σ H H2 u Q R s r q=> ?_;obtain⟨p,us,rfl,l,r⟩:=r.its R s e;refine⟨p,us,rfl,l.imp (fun l=>⟨l.1,fun l2 hl=> ?_⟩) (fun l=>⟨l.1,?_⟩)⟩
   ·exact q _ _ (aJ hl _) (Rp.tup.mpr ⟨l2,us,rfl,cJ.of (pY R s hl),r.mono (aK (aJ hl _))⟩)
   ·exact q _ _ (aC.refl _) (Rp.tup.mpr ⟨p,us,rfl,xR R s l.1,r⟩)
 ·unfold lF at h
  cases e:ra.val with
  | lst xs =>
   simp only[e]at h;cases eb:jo xs with
   | none=>rw[eb]at h;cases h
   | some bs =>
    rw[eb]at h;cases h;refine ga C (nD C.calm) ho boot_all (by decide) hs ha fun O σ H H2 u Q R s r q=> ?_;obtain⟨p,us,rfl,l,r⟩:=r.lst R s e;have:=nE eb r;subst this;exact⟨p,bs,rfl,l,q _ _ (aC.refl _) CU⟩
  | _=>simp only[e]at h;cases h
 ·cases z
 ·cases z
 ·exact absurd (show(none:Option RV)=some r from h) (by simp)
 ·exact absurd (show(none:Option RV)=some r from h) (by simp)
 ·have h:(match ra.val with
   | .lst xs=>(aP xs).map fun ns=>sc (.int ns.sum)
   | _=>none)=some r:=h
  cases e:ra.val with
  | lst xs =>
   simp only[e]at h;cases eb:aP xs with
   | none=>rw[eb]at h;cases h
   | some bs =>
    rw[eb]at h;cases h;refine ga C (jH C.calm) ho boot_sum (by decide) hs ha fun O σ H H2 u Q R s r q=> ?_;obtain⟨p,us,rfl,l,r⟩:=r.lst R s e;have:=cr eb r;subst this;exact⟨p,bs,rfl,l,q _ _ (aC.refl _) sw⟩
  | _=>simp only[e]at h;cases h
 ·have h:(match ra.val with
   | .lst xs=>d9 xs
   | _=>none)=some r:=h
  cases e:ra.val with
  | lst xs =>
   simp only[e]at h;unfold d9 at h;cases eb:aP xs with
   | none =>
    rw[eb]at h;exact sj C ho hs ha e h
   | some bs =>
    rw[eb]at h;have h:(if bs.length<64 then some (RV.own ((L2.sortI bs).map PV.int) true)else none)=some r:=h
    split at h
    ·rename_i c
     cases h;refine ga C gA ho boot_sorted (by decide) hs ha fun O σ H H2 u Q R s r q=> ?_;obtain⟨p,us,rfl,l,r⟩:=r.lst R s e;have:=cr eb r;subst this;exact⟨p,bs,rfl,l,c,fun a ha=>q _ _ (aJ ha _) (dB s ha (aF.ints.mpr rfl))⟩
    ·cases h
  | _=>simp only[e]at h;cases h
theorem BQ{cd:Nat->List PV->Option PV}{ct:Ct}(C:bQ cd X ct){x:Str}{f:Bf}{a b:Expr}{p pos:Pos}{ra rb r:RV}(ho:own ct x=true)(hb:il x 2=some f)(hs:aS a=false)(hs2:aS b=false)(ha:aH X Hi τ a ra)(hb' :aH X Hi τ b rb)(h:lF f [ra,rb]=some r) :
  aH X Hi τ (.Call (.Name x p) [a,b] [] pos) r:=by
 have hb:nH x 2=some f:=hb
 rcases gE hb with⟨_,z,_⟩|⟨_,z,_⟩|⟨_,z,_⟩|⟨_,z,_⟩|⟨_,z,_⟩|⟨rfl,_,rfl⟩|⟨rfl,_,rfl⟩|⟨_,z,_⟩|⟨_,z,_⟩|⟨_,z,_⟩|⟨_,z,_⟩
 ·cases z
 ·cases z
 ·cases z
 ·cases z
 ·cases z
 ·unfold lF at h
  cases e1:ra.val with
  | int i =>
   cases e2:rb.val with
   | int j =>
    simp only[e1,e2]at h;cases h;exact yt C (rH C.calm) ho boot_min (by decide) hs hs2 ha hb' fun O σ H H2 u v Q R s r r2 q=>⟨i,j,by rw[r.int R s e1,r2.int R s e2],q _ _ (aC.refl _) sw⟩
   | _=>simp only[e1,e2]at h;cases h
  | _=>simp only[e1]at h;cases h
 ·unfold lF at h
  cases e1:ra.val with
  | int i =>
   cases e2:rb.val with
   | int j =>
    simp only[e1,e2]at h;cases h;exact yt C (rJ C.calm) ho boot_max (by decide) hs hs2 ha hb' fun O σ H H2 u v Q R s r r2 q=>⟨i,j,by rw[r.int R s e1,r2.int R s e2],q _ _ (aC.refl _) sw⟩
   | _=>simp only[e1,e2]at h;cases h
  | _=>simp only[e1]at h;cases h
 ·cases z
 ·cases z
 ·cases z
 ·cases z
theorem aF.lrng{n:Bool}{H:Hp}(k:Nat):aF X.K Hi n (lrng k) H (yj k):=by
 unfold IR.lrng yj
 generalize List.range k=l
 induction l with
 | nil=>exact .nil
 | cons x l ih=>exact .cons (Rp.int.mpr rfl) ih
theorem kc(sep:Str):∀ys:List Str,Str.join sep ys=kd sep ys
 | []=>rfl
 | [x]=>rfl
 | x::y::r=>by
  show x++sep++Str.join sep (y::r)=_;rw[kc sep (y::r)];rfl
theorem xO{o a:Expr}{apos cpos:Pos}{ro ra r:RV}(hp:plainB o=true)(hl:(apos.endLine==cpos.line)=true)(hs:aS a=false)(h0:aH X Hi τ o ro)(ha:aH X Hi τ a ra)(h:qg .join ro [ra]=some r) :
  aH X Hi τ (.Call (.Attribute o "join" apos) [a] [] cpos) r:=by
 have hbase:attributeBase o "join" X.env (eval o X.env)=eval o X.env:=by
  cases o<;>first|rfl|cases hp
 have key:∀(sep:Str)(ys:List Str)(hsep:ro.val=.str sep),(∀(O:List Addr)(σ:L2.St)(H H2:Hp)(u:V),ah X.K Hi O τ σ H->aC H H2->aZ X.K Hi O H H2 ra u->∃p,u=.ref p/\(bJ X.K H2 p (ys.map V.str)\/cJ X.K H2 p (ys.map V.str))) ->
   (ys.map (·.length)).sum+ys.length*sep.length<=LN->aH X Hi τ (.Call (.Attribute o "join" apos) [a] [] cpos) (sc (.str (kd sep ys))):=by
  intro sep ys hsep iz hz O σ H Q R q;refine we (yc PySem.F.plainAttrs_str PySem.F.slot_str_join PySem.F.type_str_join xB ae (aT ae av (aV hs)) hbase (by rw[aV hs];rfl) hl (aV hs) rfl) ?_;refine h0 O σ H _ R fun u H1 s1 r1=> ?_;have e1:=r1.str R s1 hsep;subst e1;refine⟨rfl,ha O σ H1 _ (R.ext s1) fun v H2 s2 r2=> ?_⟩;obtain⟨p,rfl,hq⟩:=iz O σ H H2 v R (s1.trans s2) (r2.back s1);refine⟨sep,p,ys,rfl,rfl,hq,hz,?_⟩;have e:Txt.join sep ys=kd sep ys:=(PySem.StrLaws.glued_eq_join _ _).trans (kc sep ys);rw[e];exact q _ _ (s1.trans s2) scS
 unfold qg at h;cases e1:ro.val with
 | str sep =>
  cases e2:ra.val with
  | lst xs =>
   simp only[e1,e2]at h;cases et:dQ xs with
   | none=>rw[et]at h;cases h
   | some ys =>
    rw[et]at h;have h:(if(ys.map (·.length)).sum+ys.length*sep.length<=LN then some (sc (.str (kd sep ys)))else none)=some r:=h
    split at h
    ·rename_i c
     cases h;refine key sep ys e1 (fun O σ H H2 u R s r=> ?_) c;obtain⟨p,us,rfl,l,r⟩:=r.lst R s e2;have:=gx et r;subst this;exact⟨p,rfl,.inl l⟩
    ·cases h
  | tup xs =>
   simp only[e1,e2]at h;cases et:dQ xs with
   | none=>rw[et]at h;cases h
   | some ys =>
    rw[et]at h;have h:(if(ys.map (·.length)).sum+ys.length*sep.length<=LN then some (sc (.str (kd sep ys)))else none)=some r:=h
    split at h
    ·rename_i c
     cases h;refine key sep ys e1 (fun O σ H H2 u R s r=> ?_) c;obtain⟨p,us,rfl,l,r⟩:=r.tup R s e2;have:=gx et r;subst this;exact⟨p,rfl,.inr l⟩
    ·cases h
  | _=>simp only[e1,e2]at h;cases h
 | _=>simp only[e1]at h;cases h
theorem noSl{b:Expr}(h:kW b=false):Be b:=by
 intro o i;cases b<;>first|rfl|cases h
theorem wd{b:Expr}(h:kW b=false):qA b:=by
 intro o i;cases b<;>first|rfl|cases h
theorem io{n:Bool}{xs:List PV}{H:Hp}{us:List V}{k:Int}{e:PV}(r:aF X.K Hi n xs H us)(h:cf xs k=some e):∃u,cf us k=some u/\Rp X.K Hi n e H u:=by
 unfold cf at h ⊢;rw[<- r.len];cases c:xQ xs.length k with
 | none=>rw[c]at h;cases h
 | some j =>
  rw[c]at h;exact r.at (i:=j) h
theorem ud(hun:X.A.units+64<cLine){a i:Expr}{pos:Pos}{x y r:RV}(hb:kW i=false)(ha:aH X Hi τ a x)(hi:aH X Hi τ i y)(h:index x y=some r):aH X Hi τ (.Subscript a i pos) r:=by
 have go:∀{rr:R2}(hr:Di X rr),(∀(O:List Addr)(σ:L2.St)(H H2:Hp)(u v:V)(Q:VK),ah X.K Hi O τ σ H->aC H H2->aZ X.K Hi O H H2 x u->aZ X.K Hi O H H2 y v->(∀w,aZ X.K Hi O H H2 r w->Q w H2)->rr u v H2 Q)->aH X Hi τ (.Subscript a i pos) r:=by
  intro rr hr k O σ H Q R q;refine we (tm hr ae ae (wd hb)) ?_;refine ha O σ H _ R fun u H1 s1 r1=>hi O σ H1 _ (R.ext s1) fun v H2 s2 r2=> ?_;exact k O σ H H2 u v Q R (s1.trans s2) (r1.ext s2) (r2.back s1) fun w r3=>q w H2 (s1.trans s2) r3
 unfold index at h
 split at h
 case h_1 xs n k e2 =>
  cases c:cf xs k with
  | none=>rw[c]at h;cases h
  | some e =>
   rw[c]at h;cases h;refine go fK fun O σ H H2 u v Q R s r1 r2 q=> ?_;obtain⟨p,us,rfl,_,l,r⟩:=Rp.lst.mp (show Rp X.K Hi n (.lst xs) (aM H2 O) u from r1);obtain⟨w,hw,rw'⟩:=io r c;exact⟨p,us,k,w,rfl,r2.int R s e2,(aW (O:=O)).seq l,hw,q w (rw'.mono ay).up⟩
 case h_2 xs n k e2 =>
  cases c:cf xs k with
  | none=>rw[c]at h;cases h
  | some e =>
   rw[c]at h;cases h;refine go uZ fun O σ H H2 u v Q R s r1 r2 q=> ?_;obtain⟨p,us,rfl,l,r⟩:=Rp.tup.mp (show Rp X.K Hi n (.tup xs) (aM H2 O) u from r1);obtain⟨w,hw,rw'⟩:=io r c;exact⟨p,us,k,w,rfl,r2.int R s e2,(aW (O:=O)).tup l,hw,q w rw'.up⟩
 case h_3 xs n k e2 =>
  cases c:cf xs k with
  | none=>rw[c]at h;cases h
  | some e =>
   rw[c]at h;cases h;refine go fK fun O σ H H2 u v Q R s r1 r2 q=> ?_;obtain⟨p,us,rfl,h0,h1,r⟩:=r1;obtain⟨w,hw,rw'⟩:=io r c;exact⟨p,us,k,w,rfl,r2.int R s e2,bJ.of h1,hw,q w (rw'.mono (aK ay)).up⟩
 case h_4 xs k e2 =>
  cases c:cf xs k with
  | none=>rw[c]at h;cases h
  | some e =>
   rw[c]at h;cases h;refine go fK fun O σ H H2 u v Q R s r1 r2 q=> ?_;obtain⟨p,us,rfl,_,l,r⟩:=Rp.lst.mp (show Rp X.K Hi false (.lst xs) H2 u from r1);obtain⟨w,hw,rw'⟩:=io r c;refine⟨p,us,k,w,rfl,r2.int R s e2,l,hw,q w ?_⟩;unfold iK
   split
   ·rename_i im
    exact Rp.imm im (R.ext s).tups (rw'.mono ay)
   ·exact rw'.mono ay
 case h_5 xs k e2 =>
  cases c:cf xs k with
  | none=>rw[c]at h;cases h
  | some e =>
   rw[c]at h;cases h;refine go uZ fun O σ H H2 u v Q R s r1 r2 q=> ?_;obtain⟨p,us,rfl,l,r⟩:=Rp.tup.mp (show Rp X.K Hi false (.tup xs) H2 u from r1);obtain⟨w,hw,rw'⟩:=io r c;refine⟨p,us,k,w,rfl,r2.int R s e2,l,hw,q w ?_⟩;unfold iK
   split
   ·rename_i im
    exact Rp.imm im (R.ext s).tups rw'
   ·exact rw'
 case h_6 z n k e2 =>
  split at h
  ·rename_i hz
   cases c:cf z.cps.toList k with
   | none=>rw[c]at h;cases h
   | some e =>
    rw[c]at h;cases h;exact go Ag fun O σ H H2 u v Q R s r1 r2 q=>⟨z,k,e,r1.str R s rfl,r2.int R s e2,by rw[dS];exact hz,c,q _ scS⟩
  ·cases h
 case h_7 ks vs n =>
  cases ek:iP y.val with
  | none=>rw[ek]at h;cases h
  | some k =>
   rw[ek]at h;have h:(ge ks vs k).map (fun e=>RV.frz e (n||imm e))=some r:=h;cases c:ge ks vs k with
   | none=>rw[c]at h;cases h
   | some e =>
    rw[c]at h;cases h;intro O σ H Q R q;refine we (pO (by omega) ae ae (noSl hb)) ?_;refine ha O σ H _ R fun u H1 s1 r1=>hi O σ H1 _ (R.ext s1) fun v H2 s2 r2=> ?_;obtain⟨p,us,rfl,h1,h2,h3⟩:=Rp.dK (show Rp X.K Hi n (.dK ks vs) (aM H2 O) u from r1.ext s2);obtain⟨w,hw,rw'⟩:=(pA (k:=k) h3 h2).2 e c;rw[uW ek ((r2.back s1).val R (s1.trans s2))];have g:d8 H2 p (kV k) (some w):=by rw[<- hw];exact .k (aW p _ h1)
    exact⟨p,w,rfl,g,q w H2 (s1.trans s2) (rw'.mono ay).up⟩
 case h_8=>cases h
variable(X Hi τ)in
noncomputable def rR(e:Option Expr)(o:Option Int):Prop:=match e,o with
 | none,none=>True
 | some e,some i=>∃r,aH X Hi τ e r/\r.val=.int i
 | _,_=>False
theorem su{a:Expr}{lo hi:Option Expr}{l h:Option Int}{p2 pos:Pos}{x r:RV}{rr:V->Option Int->Option Int->Hp->VK->Prop}(hr:SlR X rr)(ha:aH X Hi τ a x)(hl:rR X Hi τ lo l)(hh:rR X Hi τ hi h)
  (k:∀(O:List Addr)(σ:L2.St)(H H2:Hp)(u:V)(Q:VK),ah X.K Hi O τ σ H->aC H H2->aZ X.K Hi O H H2 x u->(∀w H3,aC H2 H3->aZ X.K Hi O H H3 r w->Q w H3)->rr u l h H2 Q):aH X Hi τ (.Subscript a (.Slice lo hi none p2) pos) r:=by
 have part:∀{e:Option Expr}{o:Option Int},rR X Hi τ e o->∃t,PO X e t/\∀(O:List Addr)(σ:L2.St)(H:Hp)(Q:Option Int->Hp->Prop),ah X.K Hi O τ σ H->(∀H',aC H H' ->Q o H')->t σ H Q:=by
  intro e o he;cases e with
  | none =>
   cases o with
   | none=>exact⟨_,wc,fun O σ H Q R q=>q H (aC.refl _)⟩
   | some i=>cases he
  | some e =>
   cases o with
   | none=>cases he
   | some i =>
    obtain⟨r,h1,h2⟩:=he;exact⟨_,wb ae,fun O σ H Q R q=>h1 O σ H _ R fun u H1 s1 r1=>⟨i,r1.int R s1 h2,q _ s1⟩⟩
 obtain⟨tl,pl,ql⟩:=part hl;obtain⟨th,ph,qh⟩:=part hh;intro O σ H Q R q;refine we (tZ hr ae pl ph) ?_;refine ha O σ H _ R fun u H1 s1 r1=>ql O σ H1 _ (R.ext s1) fun H2 s2=>qh O σ H2 _ (R.ext (s1.trans s2)) fun H3 s3=> ?_;exact k O σ H H3 u Q R (s1.trans (s2.trans s3)) (r1.ext (s2.trans s3)) fun w H4 s4 r4=>q w H4 (s1.trans (s2.trans (s3.trans s4))) r4
theorem aF.cut{n:Bool}{xs:List PV}{H:Hp}{us:List V}(r:aF X.K Hi n xs H us)(lo hi:Option Int):aF X.K Hi n (IR.cut xs lo hi) H (rF us lo hi):=by
 unfold IR.cut rF;rw[<- r.len];exact(r.drop _).take _
theorem aZ.whole{O:List Addr}{σ:L2.St}{H H' :Hp}{x:RV}{u:V}{xs ys:List PV}{n:Bool}(R:ah X.K Hi O τ σ H)(s:aC H H')(h:aZ X.K Hi O H H' x u)(e:x.its=some (xs,n))(ev:x.val=.tup ys):aZ X.K Hi O H H' (.frz (.tup xs) n) u:=by
 cases x with
 | frz w m =>
  obtain rfl:w=.tup ys:=ev;cases e;exact h
 | bor w =>
  obtain rfl:w=.tup ys:=ev;have e:(if imms ys then some (ys,true)else none)=some (xs,n):=e
  split at e
  ·rename_i i
   cases e;exact Rp.imm (by rw[imm];exact i) (R.ext s).tups (show Rp X.K Hi false (.tup _) H' u from h)
  ·cases e
 | own ys m=>cases ev
 | owd b ys m=>cases b<;>cases ev
theorem sr{a:Expr}{lo hi:Option Expr}{l h:Option Int}{p2 pos:Pos}{x r:RV}(ha:aH X Hi τ a x)(hl:rR X Hi τ lo l)(hh:rR X Hi τ hi h)(e:slice x l h=some r):aH X Hi τ (.Subscript a (.Slice lo hi none p2) pos) r:=by
 unfold slice at e
 split at e
 case h_1 ev =>
  cases ei:x.its with
  | none=>rw[ei]at e;cases e
  | some w =>
   obtain⟨xs,n⟩:=w;rw[ei]at e;cases e;refine su wB ha hl hh fun O σ H H2 u Q R s r1 q=> ?_;obtain⟨p,us,rfl,l1,r2⟩:=r1.itsL R s ei ev;exact⟨p,us,rfl,l1,fun p3 hp=>q _ _ (aJ hp _) (dB s hp (r2.up.cut _ _))⟩
 case h_2=>cases e
theorem wK{a:Expr}{c1 p1 p2 pos:Pos}{k1:Nat}{x r:RV}(ha:aH X Hi τ a x)(e:tD x=some r):aH X Hi τ (.Subscript a (.Slice none none (some (.UnaryOp .USub (.Constant (.int 1) k1 c1) p1)) p2) pos) r:=by
 have go:∀{rr:V->Hp->VK->Prop}(hr:RvR X rr),(∀(O:List Addr)(σ:L2.St)(H H2:Hp)(u:V)(Q:VK),ah X.K Hi O τ σ H->aC H H2->aZ X.K Hi O H H2 x u->(∀w H3,aC H2 H3->aZ X.K Hi O H H3 r w->Q w H3)->rr u H2 Q) ->
   aH X Hi τ (.Subscript a (.Slice none none (some (.UnaryOp .USub (.Constant (.int 1) k1 c1) p1)) p2) pos) r:=by
  intro rr hr k O σ H Q R q;refine we (zy hr ae (ya sN fj)) ?_;exact ha O σ H _ R fun u H1 s1 r1=>⟨1,rfl,rfl,k O σ H H1 u Q R s1 r1 fun w H3 s3 r3=>q w H3 (s1.trans s3) r3⟩
 unfold tD at e
 split at e
 case h_1 z ev =>
  split at e
  ·rename_i hz
   cases e;exact go zY fun O σ H H2 u Q R s r1 q=>⟨z,r1.str R s ev,by rw[dS];exact hz,q _ _ (aC.refl _) scS⟩
  ·cases e
 case h_2 ev =>
  cases ei:x.its with
  | none=>rw[ei]at e;cases e
  | some w =>
   obtain⟨xs,n⟩:=w;rw[ei]at e;cases e;refine go wG fun O σ H H2 u Q R s r1 q=> ?_;obtain⟨p,us,rfl,l1,r2⟩:=r1.itsL R s ei ev;exact⟨p,us,rfl,l1,fun p3 hp=>q _ _ (aJ hp _) (dB s hp r2.rev)⟩
 case h_3=>cases e
end
end IR
namespace IR
open PySem L2
section
variable{X:Cx}{Hi:Hp}{τ:En}
end
end IR
namespace IR
open PySem PySem.Spec PyProof.Rows L2
section
variable{X:Cx}{Hi:Hp}{τ:En}
noncomputable def WI(X:Cx)(tg iter:Expr)(σ:L2.St)(H:Hp)(R:It->Hp->Prop):Prop:=∃wi,PI X tg iter wi/\wi σ H R
theorem zu{tg iter:Expr}:PI X tg iter (fun σ H R=>WI X tg iter σ H R):=fun pins s σ H R I ⟨wi,h,q⟩=>h pins s σ H R I q
noncomputable def nM(O:List Addr)(H:Hp):Prop:=∀l∈O,∃o,H l=some o/\Mo o
theorem ah.lsts{K:W.Frag}{O:List Addr}{σ:L2.St}{H:Hp}(R:ah K Hi O τ σ H):nM O H:=fun l hl=>(R.own l hl).2
noncomputable def yN(B:Hp)(H:Hp)(O:List Addr):Prop:=nM O H/\aC B (aM H O)
noncomputable def DY(B:Hp)(H:Hp)(O:List Addr):Prop:=nM O H/\aC B H
theorem nM.tups{O:List Addr}{H:Hp}(h:nM O H):ot H (aM H O):=by
 refine fY.tups fun l hl=> ?_;obtain⟨us,e,mo⟩:=h l hl;exact mo.noTup e
variable(X Hi)in
structure gb(J:It)(Ok:Hp->List Addr->Prop)(xs:List PV)(n:Bool):Prop where
 go:∀(H:Hp)(O:List Addr)(i:Nat),Ok H O->i<xs.length->J.go i H
 stop:∀(H:Hp)(O:List Addr),Ok H O->J.stop xs.length H
 yld:∀(H:Hp)(O:List Addr)(i:Nat)(u:V)(H' :Hp),Ok H O->i<xs.length->J.yld i H u H' ->aC H H' /\∃x,xs[i]? =some x/\Rp X.K Hi n x (aM H' O) u
variable(X Hi τ)in
noncomputable def nN(tg iter:Expr)(xs:List PV)(n b:Bool):Prop:=∀(O:List Addr)(σ:L2.St)(H:Hp)(R:It->Hp->Prop),ah X.K Hi O τ σ H ->
 (∀J H1,aC H H1->gb X Hi J (if b=true then DY H1 else yN (aM H1 O)) xs n->R J H1)->WI X tg iter σ H R
theorem yn{B:Hp}{p:Addr}{us:List V}{xs:List PV}{n:Bool}(l:bJ X.K B p us)(r:aF X.K Hi n xs B us):gb X Hi (Bi X.K p) (yN B) xs n where
 go:=fun H O i ok hi=>⟨us,us[i]'(by rw[<- r.len];exact hi),(ok.2.trans aW).seq l,by simp⟩
 stop:=fun H O ok=>⟨us,(ok.2.trans aW).seq l,by rw[r.len];exact Dx _⟩
 yld:=fun H O i u H' ok hi y=>by
  obtain⟨e,y⟩:=y;subst e;obtain⟨x,h1,h2⟩:=r.at' (y us ((ok.2.trans aW).seq l));exact⟨aC.refl _,x,h1,h2.mono ok.2⟩
theorem C9{B:Hp}{p:Addr}{us:List V}{xs:List PV}{n:Bool}(l:cJ X.K B p us)(r:aF X.K Hi n xs B us):gb X Hi (Itt X.K p) (yN B) xs n where
 go:=fun H O i ok hi=>⟨us,us[i]'(by rw[<- r.len];exact hi),(ok.2.trans aW).tup l,by simp⟩
 stop:=fun H O ok=>⟨us,(ok.2.trans aW).tup l,by rw[r.len];exact Dx _⟩
 yld:=fun H O i u H' ok hi y=>by
  obtain⟨e,y⟩:=y;subst e;obtain⟨x,h1,h2⟩:=r.at' (y us ((ok.2.trans aW).tup l));exact⟨aC.refl _,x,h1,h2.mono ok.2⟩
theorem BA{B:Hp}{p:Addr}{us:List V}{xs:List PV}{n m:Bool}(l:bJ X.K B p us)(r:aF X.K Hi m xs B us)(im:imms xs=true):gb X Hi (Bi X.K p) (DY B) xs n where
 go:=fun H O i ok hi=>⟨us,us[i]'(by rw[<- r.len];exact hi),ok.2.seq l,by simp⟩
 stop:=fun H O ok=>⟨us,ok.2.seq l,by rw[r.len];exact Dx _⟩
 yld:=fun H O i u H' ok hi y=>by
  obtain⟨e,y⟩:=y;subst e;have r2:aF X.K Hi n xs (aM H' O) us:=aF.imm im ok.1.tups (r.mono ok.2);obtain⟨x,h1,h2⟩:=r2.at' (y us (ok.2.seq l));exact⟨aC.refl _,x,h1,h2⟩
theorem A9{B:Hp}{p:Addr}{us:List V}{xs:List PV}{n m:Bool}(l:cJ X.K B p us)(r:aF X.K Hi m xs B us)(im:imms xs=true):gb X Hi (Itt X.K p) (DY B) xs n where
 go:=fun H O i ok hi=>⟨us,us[i]'(by rw[<- r.len];exact hi),ok.2.tup l,by simp⟩
 stop:=fun H O ok=>⟨us,ok.2.tup l,by rw[r.len];exact Dx _⟩
 yld:=fun H O i u H' ok hi y=>by
  obtain⟨e,y⟩:=y;subst e;have r2:aF X.K Hi n xs (aM H' O) us:=aF.imm im ok.1.tups (r.mono ok.2);obtain⟨x,h1,h2⟩:=r2.at' (y us (ok.2.tup l));exact⟨aC.refl _,x,h1,h2⟩
theorem bi(z:Str):(signs z).length=z.cps.size:=by unfold signs;rw[Dp,EQ]
theorem signs_at{z:Str}{i:Nat}{c:Nat}(h:z.cps[i]? =some c):(signs z)[i]? =some (.str ⟨#[c]⟩):=by
 unfold signs;rw[D7,Fp,h];rfl
theorem DA{B:Hp}{z:Str}{n:Bool}:gb X Hi (Dj z) (yN B) (signs z) n where
 go:=fun H O i ok hi=>by rw[bi]at hi;exact hi
 stop:=fun H O ok=>by show(signs z).length=z.cps.size;exact bi z
 yld:=fun H O i u H' ok hi y=>by
  obtain⟨e,c,hc,rfl⟩:=y;subst e;exact⟨aC.refl _,_,signs_at hc,Rp.str.mpr rfl⟩
theorem pd{B:Hp}{lo:Int}{k:Nat}{n:Bool}:gb X Hi (yu lo k) (yN B) ((List.range k).map fun i=>.int (lo+(i:Nat))) n where
 go:=fun H O i ok hi=>by show i<k;simpa using hi
 stop:=fun H O ok=>by show k<=_;simp
 yld:=fun H O i u H' ok hi y=>by
  obtain⟨e,rfl⟩:=y;subst e;have hi:i<k:=by simpa using hi
  exact⟨aC.refl _,_,by rw[D7,Ez hi];rfl,Rp.int.mpr rfl⟩
theorem ur{B:Hp}{lo c:Int}{k:Nat}{n:Bool}:gb X Hi (Itc lo c k) (yN B) ((List.range k).map fun i=>.int (lo+(i:Nat)*c)) n where
 go:=fun H O i ok hi=>by show i<k;simpa using hi
 stop:=fun H O ok=>by show _=k;simp
 yld:=fun H O i u H' ok hi y=>by
  obtain⟨e,rfl⟩:=y;subst e;have hi:i<k:=by simpa using hi
  exact⟨aC.refl _,_,by rw[D7,Ez hi];rfl,Rp.int.mpr rfl⟩
theorem zP{tg e:Expr}{r:RV}{xs:List PV}{n b:Bool}(he:aH X Hi τ e r)(h:g9 r=some (xs,n,b)):nN X Hi τ tg e xs n b:=by
 intro O σ H R Rl q;cases r with
 | frz v m =>
  cases v with
  | str z =>
   cases h;refine⟨_,zw ae,?_⟩;exact he O σ H _ Rl fun u H1 s1 r1=>⟨z,r1.str Rl s1 rfl,q _ _ s1 DA⟩
  | lst ys =>
   cases h;refine⟨_,dj ae,?_⟩;refine he O σ H _ Rl fun u H1 s1 r1=> ?_;obtain⟨p,us,rfl,_,l,r⟩:=Rp.lst.mp (show Rp X.K Hi n (.lst xs) (aM H1 O) u from r1);exact⟨p,rfl,⟨us,(aW (O:=O)).seq l⟩,q _ _ s1 (yn l (r.mono ay))⟩
  | tup ys =>
   cases h;refine⟨_,tV ae,?_⟩;refine he O σ H _ Rl fun u H1 s1 r1=> ?_;obtain⟨p,us,rfl,l,r⟩:=Rp.tup.mp (show Rp X.K Hi n (.tup xs) (aM H1 O) u from r1);exact⟨p,rfl,⟨us,(aW (O:=O)).tup l⟩,q _ _ s1 (C9 l r)⟩
  | _=>cases h
 | bor v =>
  cases v with
  | lst ys =>
   have h:(if imms ys then some (ys,true,true)else none)=some (xs,n,b):=h
   split at h
   ·rename_i im
    cases h;refine⟨_,dj ae,?_⟩;refine he O σ H _ Rl fun u H1 s1 r1=> ?_;obtain⟨p,us,rfl,_,l,r⟩:=Rp.lst.mp (show Rp X.K Hi false (.lst xs) H1 u from r1);exact⟨p,rfl,⟨us,l⟩,q _ _ s1 (BA l (r.mono ay) im)⟩
   ·cases h
  | tup ys =>
   have h:(if imms ys then some (ys,true,true)else none)=some (xs,n,b):=h
   split at h
   ·rename_i im
    cases h;refine⟨_,tV ae,?_⟩;refine he O σ H _ Rl fun u H1 s1 r1=> ?_;obtain⟨p,us,rfl,l,r⟩:=Rp.tup.mp (show Rp X.K Hi false (.tup xs) H1 u from r1);exact⟨p,rfl,⟨us,l⟩,q _ _ s1 (A9 l r im)⟩
   ·cases h
  | _=>cases h
 | owd bd ys m=>cases h
 | own ys m =>
  cases h;refine⟨_,dj ae,?_⟩;refine he O σ H _ Rl fun u H1 s1 r1=> ?_;obtain⟨p,us,rfl,h0,h1,r⟩:=r1;have hl:aM H1 O p=some (.lst us):=by
   unfold aM;rw[Dz fun z=> ?_]
   ·exact h1
   ·obtain⟨vs,e',_⟩:=(Rl.own p z).2
    rw[h0]at e';cases e'
  exact⟨p,rfl,⟨us,bJ.of h1⟩,q _ _ s1 (yn (bJ.of hl) (r.mono (aK ay)))⟩
theorem zf{cd:Nat->List PV->Option PV}{ct:Ct}(C:bQ cd X ct){tg:Expr}{es:List Expr}{p pos:Pos}{rs:List RV}{xs:List PV}(ho:own ct ("range":Str)=true)(hs:∀a∈es,aS a=false)(ha:lC X Hi τ es rs)(hl:es.length=rs.length)(h:hJ rs=some xs) :
  nN X Hi τ tg (.Call (.Name "range" p) es [] pos) xs true false:=by
 intro O σ H R Rl q;obtain⟨g,hm⟩:=iV C ho;unfold hJ at h
 split at h
 ·rename_i ra
  cases e:ra.val with
  | int j =>
   simp only[e]at h
   split at h
   ·rename_i c
    cases h
    match es,hl with
    | [a],_ =>
     refine⟨_,jV g hm n8 (aV (hs a (by simp))),?_⟩;refine ha O σ H _ Rl fun us H1 s1 r1=> ?_;obtain⟨u,vs,rfl,r2,z⟩:=r1;cases z;exact⟨j,by rw[r2.int Rl s1 e],c.1,c.2,q _ _ s1 pd⟩
   ·cases h
  | _=>simp only[e]at h;cases h
 ·rename_i ra rb
  cases e:ra.val with
  | int i =>
   cases e2:rb.val with
   | int j =>
    simp only[e,e2]at h
    split at h
    ·rename_i c
     cases h
     match es,hl with
     | [a,b],_ =>
      have h1:starEach [a,b] X.env=[(false,eval a X.env),(false,eval b X.env)]:=by rw[aV (hs a (by simp)),aV (hs b (by simp))];rfl
      refine⟨_,qX g hm n8 h1 (aV (hs b (by simp))),?_⟩;refine ha O σ H _ Rl fun us H1 s1 r1=> ?_;obtain⟨u,vs,rfl,r2,u2,vs2,rfl,r3,z⟩:=r1;cases z;exact⟨i,j,by rw[r2.int Rl s1 e,r3.int Rl s1 e2],c,q _ _ s1 pd⟩
    ·cases h
   | _=>simp only[e,e2]at h;cases h
  | _=>simp only[e]at h;cases h
 ·rename_i ra rb rc
  cases e:ra.val with
  | int i =>
   cases e2:rb.val with
   | int j =>
    cases e3:rc.val with
    | int k =>
     simp only[e,e2,e3]at h
     split at h
     ·rename_i c
      cases h
      match es,hl with
      | [a,b,d],_ =>
       refine⟨_,qW g hm n8 (aV (hs a (by simp))) (gp fun z hz=>hs z (by simp at hz ⊢;rcases hz with rfl|rfl<;>simp)),?_⟩;refine ha O σ H _ Rl fun us H1 s1 r1=> ?_;obtain⟨u,vs,rfl,r2,u2,vs2,rfl,r3,u3,vs3,rfl,r4,z⟩:=r1;cases z;exact⟨i,j,k,by rw[r2.int Rl s1 e,r3.int Rl s1 e2,r4.int Rl s1 e3],c.1,c.2.1,c.2.2,q _ _ s1 ur⟩
     ·cases h
    | _=>simp only[e,e2,e3]at h;cases h
   | _=>simp only[e,e2]at h;cases h
  | _=>simp only[e]at h;cases h
 ·cases h
theorem xG{O:List Addr}{σ:L2.St}{H H1:Hp}{r:RV}{xs:List PV}{n:Bool}{u:V}(R:ah X.K Hi O τ σ H)(s:aC H H1)(h:Cy r=some (xs,n))(ok:aZ X.K Hi O H H1 r u):∃p us,u=.ref p/\bJ X.K (aM H1 O) p us/\aF X.K Hi n xs (aM H1 O) us:=by
 cases r with
 | frz v m =>
  cases v with
  | lst ys =>
   cases h;obtain⟨p,us,rfl,_,l,r⟩:=Rp.lst.mp (show Rp X.K Hi n (.lst xs) (aM H1 O) u from ok);exact⟨p,us,rfl,l,r.mono ay⟩
  | _=>cases h
 | bor v=>cases h
 | owd bd ys m=>cases h
 | own ys m =>
  cases h;obtain⟨p,us,rfl,h0,h1,r⟩:=ok;have hl:aM H1 O p=some (.lst us):=by
   unfold aM;rw[Dz fun z=> ?_]
   ·exact h1
   ·obtain⟨vs,e',_⟩:=(R.own p z).2
    rw[h0]at e';cases e'
  exact⟨p,us,rfl,bJ.of hl,r.mono (aK ay)⟩
theorem kQ{O:List Addr}{H:Hp}{p:Addr}{us:List V}{xs:List PV}{n:Bool}(l:nM O H)(hp:H p=none)(r:aF X.K Hi n xs (aM H O) us):Rp X.K Hi n (.tup xs) (aM (L2.upd H p (.tup us)) O) (.ref p):=by
 refine Rp.tup.mpr ⟨p,us,rfl,cJ.of ?_,r.mono (aK (aJ hp _))⟩;unfold aM;rw[Dz fun z=> ?_]
 ·exact aD
 ·obtain⟨us,e,_⟩:=l p z
  rw[e]at hp;cases hp
theorem xc{cd:Nat->List PV->Option PV}{ct:Ct}(C:bQ cd X ct){ts:List Expr}{kt:Nat}{tpos:Pos}{a:Expr}{p pos:Pos}{ra:RV}{xs:List PV}{n:Bool}(ho:own ct ("enumerate":Str)=true)(hs:aS a=false)(ha:aH X Hi τ a ra)(h:ml ra=some (xs,n)) :
  nN X Hi τ (.Tuple ts kt tpos) (.Call (.Name "enumerate" p) [a] [] pos) xs n false:=by
 intro O σ H R Rl q;obtain⟨g,hm⟩:=iV C ho;unfold ml at h
 split at h
 ·rename_i z m
  cases h;refine⟨_,tX g hm (aT ae av (aV hs)) (aV hs),?_⟩;refine ha O σ H _ Rl fun u H1 s1 r1=>⟨z,by rw[r1.str Rl s1 rfl],q _ _ s1 ?_⟩;have zl:(List.zipWith gi (List.range z.length) (signs z)).length=z.length:=by rw[Fy,bi,EZ];exact Nat.min_self _
  have hsl:(bm z).length=z.length:=g0 z;refine⟨fun G P i ok hi=> ?_,fun G P ok=> ?_,fun G P i w G' ok hi y=> ?_⟩
  ·rw[zl]at hi
   exact⟨_,(bm z)[i]'(by omega),rfl,by simp⟩
  ·exact⟨_,rfl,by rw[zl,hsl]⟩
  ·rw[zl]at hi
   obtain⟨p3,hp3,rfl,y⟩:=y;have hz:i<z.cps.size:=hi;obtain⟨c,hc⟩:∃c,z.cps[i]? =some c:=⟨z.cps[i],by simp[hz]⟩;have hv:(bm z)[i]? =some (.str ⟨#[c]⟩):=by
    unfold bm;rw[D7,Fp,hc];rfl
   have e:=y _ (.str ⟨#[c]⟩) rfl hv;subst e;refine⟨aJ hp3 _,gi i (.str ⟨#[c]⟩),by rw[List.getElem?_zipWith,signs_at hc,Ez hi],kQ ok.1 hp3 (.cons (Rp.int.mpr rfl) (.cons (Rp.str.mpr rfl) .nil))⟩
 ·rename_i ys m
  cases h;refine⟨_,tW g hm (aT ae av (aV hs)) (aV hs),?_⟩;refine ha O σ H _ Rl fun u H1 s1 r1=> ?_;obtain⟨p1,us,rfl,l,r⟩:=Rp.tup.mp (show Rp X.K Hi n (.tup ys) (aM H1 O) u from r1);refine⟨p1,us,rfl,(aW (O:=O)).tup l,q _ _ s1 ?_⟩;have zl:(List.zipWith gi (List.range ys.length) ys).length=ys.length:=by rw[Fy,EZ];exact Nat.min_self _
  have hsl:=r.len;refine⟨fun G P i ok hi=> ?_,fun G P ok=> ?_,fun G P i w G' ok hi y=> ?_⟩
  ·rw[zl]at hi
   exact⟨us,us[i]'(by omega),(ok.2.trans aW).tup l,by simp⟩
  ·exact⟨us,(ok.2.trans aW).tup l,by rw[zl,hsl]⟩
  ·rw[zl]at hi
   obtain⟨p3,hp3,rfl,y⟩:=y;have hv:us[i]? =some (us[i]'(by omega)):=by simp
   have e:=y us _ ((ok.2.trans aW).tup l) hv;subst e;obtain⟨x1,hx1,rx1⟩:=r.at' hv;exact⟨aJ hp3 _,gi i x1,by rw[List.getElem?_zipWith,hx1,Ez hi],kQ ok.1 hp3 (.cons (Rp.int.mpr rfl) (.cons (rx1.mono ok.2) .nil))⟩
 ·split at h
  ·rename_i ys m e1
   cases h;refine⟨_,mE g hm (aT ae av (aV hs)) (aV hs),?_⟩;refine ha O σ H _ Rl fun u H1 s1 r1=> ?_;obtain⟨p1,us,rfl,l,r⟩:=xG Rl s1 e1 r1;refine⟨p1,us,rfl,(aW (O:=O)).seq l,q _ _ s1 ?_⟩;have zl:(List.zipWith gi (List.range ys.length) ys).length=ys.length:=by rw[Fy,EZ];exact Nat.min_self _
   have hsl:=r.len;refine⟨fun G P i ok hi=> ?_,fun G P ok=> ?_,fun G P i w G' ok hi y=> ?_⟩
   ·rw[zl]at hi
    exact⟨us,us[i]'(by omega),(ok.2.trans aW).seq l,by simp⟩
   ·exact⟨us,(ok.2.trans aW).seq l,by rw[zl,hsl]⟩
   ·rw[zl]at hi
    obtain⟨p3,hp3,rfl,y⟩:=y;have hv:us[i]? =some (us[i]'(by omega)):=by simp
    have e:=y us _ ((ok.2.trans aW).seq l) hv;subst e;obtain⟨x1,hx1,rx1⟩:=r.at' hv;exact⟨aJ hp3 _,gi i x1,by rw[List.getElem?_zipWith,hx1,Ez hi],kQ ok.1 hp3 (.cons (Rp.int.mpr rfl) (.cons (rx1.mono ok.2) .nil))⟩
  ·cases h
theorem fh{N:List Str}:∀{xs:List Str}{is:List Nat},slots N xs=some is->xs.length=is.length
 | [],is,h=>by cases h;rfl
 | x::xs,is,h=>by
  unfold slots at h;cases e:slot N x with
  | none=>rw[e]at h;cases h
  | some i =>
   rw[e]at h;cases e2:slots N xs with
   | none=>simp[e2]at h
   | some js =>
    simp[e2]at h;subst h;simp[fh e2]
theorem lj{N:List Str}:∀{xs:List Str}{is:List Nat}{j i:Nat},slots N xs=some is->is[j]? =some i->∃x,xs[j]? =some x/\N[i]? =some x
 | [],is,j,i,h,hj=>by cases h;simp at hj
 | x::xs,is,j,i,h,hj=>by
  unfold slots at h;cases e:slot N x with
  | none=>rw[e]at h;cases h
  | some i0 =>
   rw[e]at h;cases e2:slots N xs with
   | none=>simp[e2]at h
   | some js =>
    simp[e2]at h;subst h;cases j with
    | zero =>
     simp at hj;subst hj;exact⟨x,by simp,di e⟩
    | succ j=>simpa using lj e2 (by simpa using hj)
theorem iN{ct:Ct}{t:Str}{scope:Scope}(h:qo ct t scope=true):scope.kind=.function/\(∀y∈scope.names,y.2=.cell->scope.names.lookup y.1=some .cell)/\(∀y∈scope.names,y.2=.local->scope.names.lookup y.1=some .local) /\
  (∀y∈scope.names,y.2=.free->(ct.S.lookup y.1=some .cell\/ct.S.lookup y.1=some .free))/\(t::frees scope).Nodup/\(scope.names.lookup t=some .local\/scope.names.lookup t=some .cell)/\∀x∈frees scope,scope.names.lookup x=some .free:=by
 unfold qo at h;simp only[Du]at h;obtain⟨⟨⟨⟨⟨⟨h1,h2⟩,h3⟩,h4⟩,h5⟩,h6⟩,h7⟩:=h;refine⟨EN h1,fun y hy e=> ?_,fun y hy e=> ?_,fun y hy e=> ?_,Eg h5,by simpa using h6,fun x hx=> ?_⟩
 ·have:=EG.mp h2 y hy
  rw[e]at this
  simpa using this
 ·have:=EG.mp h3 y hy
  rw[e]at this
  simpa using this
 ·have:=EG.mp h4 y hy
  rw[e]at this
  simpa using this
 ·have:=EG.mp h7 x hx
  simpa using this
theorem fB{env:Env}:∀{names:List (Str×NameKind)}{x:Str},names.lookup x=some .cell ->
  (names.map fun(n,k)=>if(k==NameKind.free&&env.scope.kind== .function&&env.kindOf n==some .cell)then(n,NameKind.cell)else(n,k)).lookup x=some .cell
 | [],_,h=>by simp at h
 | (n,k)::r,x,h=>by
  have ih:= @fB env r x;show List.lookup x ((if(k==NameKind.free&&env.scope.kind== .function&&env.kindOf n==some .cell)=true then(n,NameKind.cell)else(n,k))::_)=_;cases hx:x==n with
  | true =>
   simp only[Ea,hx]at h;cases h;rw[Dz (by simp)];simp only[Ea,hx]
  | false =>
   simp only[Ea,hx]at h
   by_cases hc:(k==NameKind.free&&env.scope.kind== .function&&env.kindOf n==some .cell)=true
   ·rw[D3 hc];simp only[Ea,hx];exact ih h
   ·rw[Dz hc];simp only[Ea,hx];exact ih h
theorem ef{N' :List Str}{scope:Scope}{Cf:Addr}{s2:Shared}{H2:Hp}{fp:List Addr}{cl:List (Str×Addr)}{t:Str}(h:scope.names.lookup t=some .local\/scope.names.lookup t=some .cell):L2.Loc (aw X N' scope Cf s2 H2 fp cl).env.scope t:=by
 rcases h with h|h
 ·exact .inl (lookup_relabel_local h)
 ·exact .inr (fB h)
theorem gw{N' :List Str}{scope:Scope}{Cf:Addr}{s2:Shared}{H2:Hp}{fp:List Addr}{cl:List (Str×Addr)}{t:Str}(h:scope.names.lookup t=some .local\/scope.names.lookup t=some .cell):(aw X N' scope Cf s2 H2 fp cl).fn t=true\/(aw X N' scope Cf s2 H2 fp cl).env.scope.names.lookup t=some .local:=by
 rcases h with h|h
 ·exact .inr (lookup_relabel_local h)
 ·left
  show(scope.names.lookup t==some .cell)=true;rw[h];rfl
theorem bQ.blk{cd:Nat->List PV->Option PV}{ct:Ct}(C:bQ cd X ct){t:Str}{scope:Scope}(h:qo ct t scope=true)(Cf:Addr)(s2:Shared)(H2:Hp)(fp:List Addr)(cl:List (Str×Addr)):bQ cd (aw X (t::frees scope) scope Cf s2 H2 fp cl) (blk ct t scope):=by
 obtain⟨h1,h2,h3,h4,h5,h6,h7⟩:=iN h;refine⟨rfl,h5,?_,h1,C.calm,C.glob,C.bl,C.fns,FM,C.un⟩;show(scope.names.map fun(n,k)=>if(k==NameKind.free&&X.env.scope.kind== .function&&X.env.kindOf n==some .cell)then(n,NameKind.cell)else(n,k))=jS ct.S scope.names;unfold jS;refine Ep fun y hy=> ?_;obtain⟨n,k⟩:=y;have e:(X.env.scope.kind==ScopeKind.function)=true:=by rw[C.kind];rfl
 have e2:X.env.kindOf n=ct.S.lookup n:=by
  show X.env.scope.names.lookup n=_;rw[C.S]
 dsimp only;rw[e,e2]
theorem dm{ct:Ct}{t t2:Str}{scope:Scope}(h:fJ ct t t2 scope=true):scope.kind=.function/\(∀y∈scope.names,y.2=.cell->scope.names.lookup y.1=some .cell)/\(∀y∈scope.names,y.2=.local->scope.names.lookup y.1=some .local) /\
  (∀y∈scope.names,y.2=.free->(ct.S.lookup y.1=some .cell\/ct.S.lookup y.1=some .free))/\(t::t2::frees scope).Nodup/\(scope.names.lookup t=some .local\/scope.names.lookup t=some .cell)/\(scope.names.lookup t2=some .local\/scope.names.lookup t2=some .cell)/\∀x∈frees scope,scope.names.lookup x=some .free:=by
 unfold fJ at h;simp only[Du]at h;obtain⟨⟨⟨⟨⟨⟨⟨h1,h2⟩,h3⟩,h4⟩,h5⟩,h6⟩,h8⟩,h7⟩:=h;refine⟨EN h1,fun y hy e=> ?_,fun y hy e=> ?_,fun y hy e=> ?_,Eg h5,by simpa using h6,by simpa using h8,fun x hx=> ?_⟩
 ·have:=EG.mp h2 y hy
  rw[e]at this
  simpa using this
 ·have:=EG.mp h3 y hy
  rw[e]at this
  simpa using this
 ·have:=EG.mp h4 y hy
  rw[e]at this
  simpa using this
 ·have:=EG.mp h7 x hx
  simpa using this
theorem bQ.blk2{cd:Nat->List PV->Option PV}{ct:Ct}(C:bQ cd X ct){t t2:Str}{scope:Scope}(h:fJ ct t t2 scope=true)(Cf:Addr)(s2:Shared)(H2:Hp)(fp:List Addr)(cl:List (Str×Addr)):bQ cd (aw X (t::t2::frees scope) scope Cf s2 H2 fp cl) (blk2 ct t t2 scope):=by
 obtain⟨h1,h2,h3,h4,h5,h6,h8,h7⟩:=dm h;refine⟨rfl,h5,?_,h1,C.calm,C.glob,C.bl,C.fns,FM,C.un⟩;show(scope.names.map fun(n,k)=>if(k==NameKind.free&&X.env.scope.kind== .function&&X.env.kindOf n==some .cell)then(n,NameKind.cell)else(n,k))=jS ct.S scope.names;unfold jS;refine Ep fun y hy=> ?_;obtain⟨n,k⟩:=y;have e:(X.env.scope.kind==ScopeKind.function)=true:=by rw[C.kind];rfl
 have e2:X.env.kindOf n=ct.S.lookup n:=by
  show X.env.scope.names.lookup n=_;rw[C.S]
 dsimp only;rw[e,e2]
theorem eh{cd:Nat->List PV->Option PV}{ct:Ct}(C:bQ cd X ct){scope:Scope}:∀{xs:List Str}{caps:List Nat},slots ct.N xs=some caps->(∀x∈xs,scope.names.lookup x=some .free/\(ct.S.lookup x=some .cell\/ct.S.lookup x=some .free))->bA X scope xs (caps.map some)
 | [],caps,h,_=>by cases h;exact True.intro
 | x::xs,caps,h,k=>by
  unfold slots at h;cases e:slot ct.N x with
  | none=>rw[e]at h;cases h
  | some i0 =>
   rw[e]at h;cases e2:slots ct.N xs with
   | none=>simp[e2]at h
   | some js =>
    simp[e2]at h;subst h;obtain⟨k1,k2⟩:=k x Ds;exact⟨⟨by rw[C.N];exact di e,k1,by rw[C.S];exact k2⟩,eh C e2 fun y hy=>k y (Dq _ hy)⟩
theorem uI{t:TV}{x:Bd×List PV×Bool}(h:t.ob=some x):t≠.un:=fun e=>by subst e;cases h
theorem ah.block{K:W.Frag}{O:List Addr}{σ:L2.St}{H:Hp}{caps:List Nat}{x:PV}{n:Bool}{u:V}(R:ah K Hi O τ σ H)(nd:caps.Nodup)(r:Rp K Hi n x (aM H O) u) :
  ah K Hi O (.frz x n::caps.map fun i=>τ.getD i .un) (some u::az (caps.map some) σ) H:=by
 have hτ:∀(j:Nat)(v:TV),(caps.map fun i=>τ.getD i .un)[j]? =some v->v≠.un->∃i,caps[j]? =some i/\τ[i]? =some v:=fun j v e hv=>by
  rw[D7]at e;cases ec:caps[j]? with
  | none=>rw[ec]at e;cases e
  | some i =>
   rw[ec]at e;refine⟨i,rfl,?_⟩;have e:τ.getD i .un=v:=EJ e;rw[Dt]at e;cases et:τ[i]? with
   | none=>rw[et]at e;exact absurd e.symm hv
   | some w=>rw[et]at e;exact Ek some e
 have hσ:∀(j i:Nat),caps[j]? =some i->(az (caps.map some) σ)[j]? =some ((σ[i]?).join):=fun j i e=>by
  unfold az;rw[D7,D7,e];rfl
 refine⟨R.same,R.own,fun j v m e=> ?_,fun j t bd ys m e ht=> ?_,fun a b t t' x1 y1 l e1 ht e2 ht' h1 h2=> ?_⟩
 ·cases j with
  | zero =>
   simp at e;obtain⟨rfl,rfl⟩:=e;exact⟨u,by simp,r⟩
  | succ j =>
   obtain⟨i,h1,h2⟩:=hτ j _ (by simpa using e) (by simp);obtain⟨w,h3,h4⟩:=R.frz i v m h2;exact⟨w,by rw[Et,hσ j i h1,h3];rfl,h4⟩
 ·cases j with
  | zero =>
   simp at e;subst e;cases ht
  | succ j =>
   obtain⟨i,h1,h2⟩:=hτ j _ (by simpa using e) (uI ht);obtain⟨l,us,o,h3,h4⟩:=R.obs i t bd ys m h2 ht;exact⟨l,us,o,by rw[Et,hσ j i h1,h3];rfl,h4⟩
 ·cases a with
  | zero =>
   simp at e1;subst e1;cases ht
  | succ a =>
   cases b with
   | zero =>
    simp at e2;subst e2;cases ht'
   | succ b =>
    obtain⟨i,c1,c2⟩:=hτ a _ (by simpa using e1) (uI ht);obtain⟨j,d1,d2⟩:=hτ b _ (by simpa using e2) (uI ht');rw[Et,hσ a i c1]at h1;rw[Et,hσ b j d1]at h2;obtain⟨b1,xs1,n1⟩:=x1;obtain⟨b2,xs2,n2⟩:=y1;obtain⟨l1,us1,o1,g1,_⟩:=R.obs i t b1 xs1 n1 c2 ht;obtain⟨l2,us2,o2,g2,_⟩:=R.obs j t' b2 xs2 n2 d2 ht';rw[g1]at h1;rw[g2]at h2;cases h1;cases h2;have e:=R.dst i j t t' _ _ l c2 ht d2 ht' g1 g2;subst e
    congr 1
    have ha:a<caps.length:=(D1.mp c1).1;have hb:b<caps.length:=(D1.mp d1).1;have e1:caps[a]=i:=by rw[Dw ha]at c1;exact EJ c1
    have e2:caps[b]=i:=by rw[Dw hb]at d1;exact EJ d1
    exact(List.getElem_inj nd).mp (e1.trans e2.symm)
theorem eT{N:List Str}:∀{xs:List Str}{caps:List Nat},slots N xs=some caps->xs.Nodup->caps.Nodup
 | [],caps,h,_=>by cases h;exact List.nodup_nil
 | x::xs,caps,h,nd=>by
  unfold slots at h;cases e:slot N x with
  | none=>rw[e]at h;cases h
  | some i0 =>
   rw[e]at h;cases e2:slots N xs with
   | none=>simp[e2]at h
   | some js =>
    simp[e2]at h;subst h;refine EO.mpr ⟨fun hm=> ?_,eT e2 (EO.mp nd).2⟩;obtain⟨k,hk⟩:=List.mem_iff_getElem?.mp hm;obtain⟨y,h1,h2⟩:=lj e2 hk;rw[di e]at h2;cases h2;exact(EO.mp nd).1 (EE h1)
theorem ah.hide{K:W.Frag}{O:List Addr}{σ:L2.St}{H H' :Hp}{D:Addr}{us:List V}(R:ah K Hi O τ σ H)(s:aC H H')(h0:H D=none)(h1:H' D=some (.lst us)):ah K Hi (D::O) τ σ H' :=by
 have hs:aC (aM H O) (aM H' (D::O)):=fun b o e=>by
  unfold aM at e ⊢
  split at e
  ·cases e
  ·rename_i nb
   have ne:b≠D:=aG e h0;rw[Dz (by simp[ne,nb])];exact s b o e
 refine⟨R.same.trans s,fun l hl=> ?_,fun i v n e=> ?_,fun i t b xs n e ht=> ?_,R.dst⟩
 ·rcases D8.mp hl with rfl|hl
  ·exact⟨R.same.free h0,_,h1,.lst⟩
  ·obtain⟨q,vs,e,mo⟩:=R.own l hl
   exact⟨q,vs,s _ _ e,mo⟩
 ·obtain⟨u,g1,g2⟩:=R.frz i v n e
  exact⟨u,g1,g2.mono hs⟩
 ·obtain⟨l,vs,o,g1,g2,g3,g4,g5⟩:=R.obs i t b xs n e ht
  exact⟨l,vs,o,g1,Dq _ g2,s _ _ g3,g4,g5.mono hs⟩
theorem kP{e:Expr}{env:Env}(h:cq e=false):∀x,foldedSetIterable e env x=pure x:=by
 intro x;cases e with
 | Set a b c=>cases h
 | _=>rfl
noncomputable def mw(cd:Nat->List PV->Option PV)(ifs:Bk)(elt:IE)(n:Bool)(aN:En):PV->Option (Option (PV×Bool)):=fun x=>(ft cd ifs (.frz x (n||imm x)::aN)).bind fun b=>if b then(aa cd elt (.frz x (n||imm x)::aN)).bind fun r=>r.keep.map some else some none
theorem xL{cd:Nat->List PV->Option PV}{ct:Ct}(C:bQ cd X ct){t:Str}{tp:Pos}{iter elt:Expr}{ifs:List Expr}{ifs' :Bk}{elt' :IE}{scope:Scope}{caps:List Nat}{xs:List PV}{n b:Bool}{VS:List PV}{NN:Bool}
  (h:qo ct t scope=true) (hc:slots ct.N (frees scope)=some caps) (hset:cq iter=false) (iz:nN X Hi τ (.Name t tp) iter xs n b) (hz:xs.length<=LN)
  (hifs:∀(X' :Cx)(τ' :En)(k:Bool),bQ cd X' (blk ct t scope)->ft cd ifs' τ' =some k->∃tt,vS X' ifs tt/\∀(O:List Addr)(σ:L2.St)(H:Hp)(Q:Bool->Hp->Prop),ah X'.K Hi O τ' σ H->(∀H',aC H H' ->Q k H')->tt σ H Q)
  (helt:∀(X' :Cx)(τ' :En)(r:RV),bQ cd X' (blk ct t scope)->aa cd elt' τ' =some r->aH X' Hi τ' elt r)
  (hrun:bD (mw cd ifs' elt' n (caps.map fun i=>τ.getD i .un)) xs=some (VS,NN)):bA X scope (t::frees scope) (none::caps.map some)/\cv X.env.scope scope=true /\
  ∀(O:List Addr)(σ:L2.St)(H:Hp)(Q:VK),ah X.K Hi O τ σ H->(∀u H',aC H H' ->aZ X.K Hi O H H' (.own VS NN) u->Q u H')->Bp X (t::frees scope) (none::caps.map some) scope (.Name t tp) ifs elt (fun σ H R=>WI X (.Name t tp) iter σ H R) σ H Q:=by
 obtain⟨h1,h2,h3,h4,h5,h6,h7⟩:=iN h;have hmem:∀x∈frees scope,(x,NameKind.free)∈scope.names:=fun x hx=>ER (h7 x hx);have hsrc:bA X scope (t::frees scope) (none::caps.map some):=eh C hc fun x hx=>⟨h7 x hx,h4 _ (hmem x hx) rfl⟩;have hfr:cv X.env.scope scope=true:=by
  unfold cv;rw[EG];intro y hy;rw[C.S]
  by_cases e:y.2=.free
  ·rcases h4 y hy e with z|z<;>simp[e,z]
  ·simp[e]
 refine⟨hsrc,hfr,fun O σ H Q R q=> ?_⟩;refine iz O σ H _ R fun J H1 s1 En=> ?_;intro D hD;have hlen:=fh hc;have ok:∀(G:Hp)(ys:List V),aC H1 G->G D=some (.lst ys)->(if b=true then DY H1 else yN (aM H1 O)) G (D::O):=by
  intro G ys sG gD;have ls:nM (D::O) G:=fun l hl=>by
   rcases D8.mp hl with rfl|hl
   ·exact⟨_,gD,.lst⟩
   ·obtain⟨us,e,mo⟩:=(R.own l hl).2
    exact⟨us,sG _ _ (s1 _ _ e),mo⟩
  cases b with
  | true=>exact⟨ls,sG⟩
  | false =>
   refine⟨ls,fun c o e=> ?_⟩;unfold aM at e ⊢
   split at e
   ·cases e
   ·rename_i nb
    have ne:c≠D:=aG e hD;rw[Dz (by simp[ne,nb])];exact sG c o e
 refine⟨fun i m ys G=>m=xs.length-i/\i<=xs.length/\aC H1 G/\G D=some (.lst ys)/\ys.length<=i/\∃dn ws mm,bD (mw cd ifs' elt' n (caps.map fun i=>τ.getD i .un)) (xs.drop i)=some (ws,mm)/\VS=dn++ws/\(NN=true->mm=true)/\aF X.K Hi NN dn (aM G (D::O)) ys,
  ⟨xs.length,by simp,EY _,aJ hD _,aD,Dx _,[],VS,NN,hrun,rfl,id,.nil⟩,?_⟩
 rintro i m ys G ⟨rfl,hi,sG,gD,hyl,dn,ws,mm,hc1,hv,hn,hr⟩
 by_cases hlt:i<xs.length
 ·refine .inr ⟨En.go G (D::O) i (ok G ys sG gD) hlt,fun u G' y=> ?_⟩
  obtain⟨sGG,x,hx,rx⟩:=En.yld G (D::O) i u G' (ok G ys sG gD) hlt y;intro Cf s2 H2 fp cl;have C' :=C.blk h Cf s2 H2 fp cl;have hd:xs.drop i=x::xs.drop (i+1):=by
   rw[FY hlt];rw[Dw hlt]at hx;rw[EJ hx]
  rw[hd]at hc1;unfold bD at hc1;cases hf:mw cd ifs' elt' n (caps.map fun i=>τ.getD i .un) x with
  | none=>rw[hf]at hc1;cases hc1
  | some r0 =>
   rw[hf]at hc1;cases hcr:bD (mw cd ifs' elt' n (caps.map fun i=>τ.getD i .un)) (xs.drop (i+1))with
   | none=>rw[hcr]at hc1;cases hc1
   | some w =>
    obtain⟨ws',mm'⟩:=w;rw[hcr]at hc1;unfold mw at hf;cases hco:ft cd ifs' (.frz x (n||imm x)::caps.map fun i=>τ.getD i .un)with
    | none=>rw[hco]at hf;cases hf
    | some k =>
     rw[hco]at hf;obtain⟨tt,ptt,qtt⟩:=hifs _ _ _ C' hco;have gD' :G' D=some (.lst ys):=sGG _ _ gD
     have RB:ah X.K Hi (D::O) (.frz x (n||imm x)::caps.map fun i=>τ.getD i .un) (some u::az (caps.map some) σ) G' :=
      (R.hide (s1.trans (sG.trans sGG)) (s1.free hD) gD').block (eT hc (EO.mp h5).2) rx.up
     refine⟨mY 0,tt,_,aq h5 rfl (ef h6) (gw h6),ptt,ae,?_⟩;refine⟨nG (by simp[hlen]),?_⟩;show tt (some u::az (caps.map some) σ) G' _;refine qtt (D::O) _ G' _ RB fun G4 s4=> ?_;cases k with
     | false =>
      rw[Dz Dy];have hf:(some none:Option (Option (PV×Bool)))=some r0:=hf;cases hf;cases hc1;exact⟨xs.length-(i+1),by omega,rfl,hlt,sG.trans (sGG.trans s4),s4 _ _ gD',by omega,dn,ws,mm,hcr,hv,hn,hr.mono (aK (sGG.trans s4))⟩
     | true =>
      rw[D3 rfl];have hf:((aa cd elt' (.frz x (n||imm x)::caps.map fun i=>τ.getD i .un)).bind fun r=>r.keep.map some)=some r0:=hf;cases he:aa cd elt' (.frz x (n||imm x)::caps.map fun i=>τ.getD i .un)with
      | none=>rw[he]at hf;cases hf
      | some r =>
       rw[he]at hf;have hf:r.keep.map some=some r0:=hf;cases hk:r.keep with
       | none=>rw[hk]at hf;cases hf
       | some vn =>
        obtain⟨v,nv⟩:=vn;rw[hk]at hf;cases hf;have hc1:some (v::ws',nv&&mm')=some (ws,mm):=hc1;cases hc1;refine helt _ _ _ C' he (D::O) _ G4 _ (RB.ext s4) fun w G5 s5 r5=> ?_;have kp:=r5.keep (RB.ext s4) s5 hk;have gD5:=s5 _ _ (s4 _ _ gD');have sT:=sG.trans (sGG.trans (s4.trans s5));have hz' :xs.length<=16777216:=hz;refine⟨gD5,by rw[dS];omega,xs.length-(i+1),by omega,rfl,hlt,sT.upd hD,aD,by rw[EC];simp;omega,dn++[v],ws',mm',hcr,by rw[hv];simp,fun z=> ?_,?_⟩
        ·have:=hn z
         rw[Du]at this;exact this.2
        ·have e:aM (L2.upd G5 D (.lst (ys++[w]))) (D::O)=aM G5 (D::O):=by
          funext c
          unfold aM
          split
          ·rfl
          ·rename_i nc
           exact aB fun z=>nc (z▸Ds)
         rw[e];refine(hr.mono (aK (sGG.trans (s4.trans s5)))).app (.cons (kp.low fun z=> ?_) .nil);have:=hn z;rw[Du]at this;exact this.1
 ·have e:i=xs.length:=by omega
  subst e;rw[List.drop_length]at hc1;cases hc1;refine .inl ⟨En.stop G (D::O) (ok G ys sG gD),q _ _ (s1.trans sG) ?_⟩;refine⟨D,ys,rfl,s1.free hD,gD,?_⟩;rw[hv,Ey];refine hr.mono fun c o e=> ?_;unfold aM at e;unfold aM del
  split at e
  ·cases e
  ·rename_i nc
   have n1:c≠D:=fun z=>nc (z▸Ds);have n2:c∉O:=fun z=>nc (Dq _ z);rw[Dz n2,Dz n1];exact e
theorem ah.consF{K:W.Frag}{O:List Addr}{σ:L2.St}{H:Hp}{x:PV}{n:Bool}{u:V}(R:ah K Hi O τ σ H)(r:Rp K Hi n x (aM H O) u):ah K Hi O (.frz x n::τ) (some u::σ) H:=by
 refine⟨R.same,R.own,fun j v m e=> ?_,fun j t bd ys m e ht=> ?_,fun a b t t' x1 y1 l e1 ht e2 ht' h1 h2=> ?_⟩
 ·cases j with
  | zero =>
   simp at e;obtain⟨rfl,rfl⟩:=e;exact⟨u,by simp,r⟩
  | succ j =>
   obtain⟨w,h3,h4⟩:=R.frz j v m (by simpa using e);exact⟨w,by simpa using h3,h4⟩
 ·cases j with
  | zero =>
   simp at e;subst e;cases ht
  | succ j =>
   obtain⟨l,us,o,h3,h4⟩:=R.obs j t bd ys m (by simpa using e) ht;exact⟨l,us,o,by simpa using h3,h4⟩
 ·cases a with
  | zero =>
   simp at e1;subst e1;cases ht
  | succ a =>
   cases b with
   | zero =>
    simp at e2;subst e2;cases ht'
   | succ b=>rw[R.dst a b t t' x1 y1 l (by simpa using e1) ht (by simpa using e2) ht' (by simpa using h1) (by simpa using h2)]
theorem jp{N' :List Str}{r:List (Option Nat)}{σ:L2.St}{x y:V}(h:r.length+2=N'.length) :
  (((az (none::none::r) σ).set 0 (some x)).set 1 (some y)).length=N'.length/\∀(j:Nat)(v:V),(az (none::none::r) σ)[j]? =some (some v)->(((az (none::none::r) σ).set 0 (some x)).set 1 (some y))[j]? =some (some v):=by
 refine⟨by rw[Ex,Ex];simp[az,h],fun j v e=> ?_⟩;cases j with
 | zero=>simp[az]at e
 | succ j =>
  cases j with
  | zero=>simp[az]at e
  | succ j=>simpa [az]using e
noncomputable def ie(cd:Nat->List PV->Option PV)(ifs:Bk)(elt:IE)(n:Bool)(aN:En):PV->Option (Option (PV×Bool)):=fun x=>(iE x).bind fun(a,b)=>(ft cd ifs (.frz a (n||imm a)::.frz b (n||imm b)::aN)).bind fun t=>if t then(aa cd elt (.frz a (n||imm a)::.frz b (n||imm b)::aN)).bind fun r=>r.keep.map some else some none
theorem uR{cd:Nat->List PV->Option PV}{ct:Ct}(C:bQ cd X ct){t t2:Str}{kk:Nat}{tp tp2 tpp:Pos}{iter elt:Expr}{ifs:List Expr}{ifs' :Bk}{elt' :IE}{scope:Scope}{caps:List Nat}{xs:List PV}{n b:Bool}{VS:List PV}{NN:Bool}
  (h:fJ ct t t2 scope=true) (hc:slots ct.N (frees scope)=some caps) (hset:cq iter=false) (iz:nN X Hi τ (.Tuple [.Name t tp,.Name t2 tp2] kk tpp) iter xs n b) (hz:xs.length<=LN)
  (hifs:∀(X' :Cx)(τ' :En)(k:Bool),bQ cd X' (blk2 ct t t2 scope)->ft cd ifs' τ' =some k->∃tt,vS X' ifs tt/\∀(O:List Addr)(σ:L2.St)(H:Hp)(Q:Bool->Hp->Prop),ah X'.K Hi O τ' σ H->(∀H',aC H H' ->Q k H')->tt σ H Q)
  (helt:∀(X' :Cx)(τ' :En)(r:RV),bQ cd X' (blk2 ct t t2 scope)->aa cd elt' τ' =some r->aH X' Hi τ' elt r)
  (hrun:bD (ie cd ifs' elt' n (caps.map fun i=>τ.getD i .un)) xs=some (VS,NN)):bA X scope (t::t2::frees scope) (none::none::caps.map some)/\cv X.env.scope scope=true /\
  ∀(O:List Addr)(σ:L2.St)(H:Hp)(Q:VK),ah X.K Hi O τ σ H->(∀u H',aC H H' ->aZ X.K Hi O H H' (.own VS NN) u->Q u H')->Bp X (t::t2::frees scope) (none::none::caps.map some) scope (.Tuple [.Name t tp,.Name t2 tp2] kk tpp) ifs elt (fun σ H R=>WI X (.Tuple [.Name t tp,.Name t2 tp2] kk tpp) iter σ H R) σ H Q:=by
 obtain⟨h1,h2,h3,h4,h5,h6,h8,h7⟩:=dm h;have hmem:∀x∈frees scope,(x,NameKind.free)∈scope.names:=fun x hx=>ER (h7 x hx);have hsrc:bA X scope (t::t2::frees scope) (none::none::caps.map some):=eh C hc fun x hx=>⟨h7 x hx,h4 _ (hmem x hx) rfl⟩;have hfr:cv X.env.scope scope=true:=by
  unfold cv;rw[EG];intro y hy;rw[C.S]
  by_cases e:y.2=.free
  ·rcases h4 y hy e with z|z<;>simp[e,z]
  ·simp[e]
 refine⟨hsrc,hfr,fun O σ H Q R q=> ?_⟩;refine iz O σ H _ R fun J H1 s1 En=> ?_;intro D hD;have hlen:=fh hc;have ok:∀(G:Hp)(ys:List V),aC H1 G->G D=some (.lst ys)->(if b=true then DY H1 else yN (aM H1 O)) G (D::O):=by
  intro G ys sG gD;have ls:nM (D::O) G:=fun l hl=>by
   rcases D8.mp hl with rfl|hl
   ·exact⟨_,gD,.lst⟩
   ·obtain⟨us,e,mo⟩:=(R.own l hl).2
    exact⟨us,sG _ _ (s1 _ _ e),mo⟩
  cases b with
  | true=>exact⟨ls,sG⟩
  | false =>
   refine⟨ls,fun c o e=> ?_⟩;unfold aM at e ⊢
   split at e
   ·cases e
   ·rename_i nb
    have ne:c≠D:=aG e hD;rw[Dz (by simp[ne,nb])];exact sG c o e
 refine⟨fun i m ys G=>m=xs.length-i/\i<=xs.length/\aC H1 G/\G D=some (.lst ys)/\ys.length<=i/\∃dn ws mm,bD (ie cd ifs' elt' n (caps.map fun i=>τ.getD i .un)) (xs.drop i)=some (ws,mm)/\VS=dn++ws/\(NN=true->mm=true)/\aF X.K Hi NN dn (aM G (D::O)) ys,
  ⟨xs.length,by simp,EY _,aJ hD _,aD,Dx _,[],VS,NN,hrun,rfl,id,.nil⟩,?_⟩
 rintro i m ys G ⟨rfl,hi,sG,gD,hyl,dn,ws,mm,hc1,hv,hn,hr⟩
 by_cases hlt:i<xs.length
 ·refine .inr ⟨En.go G (D::O) i (ok G ys sG gD) hlt,fun u G' y=> ?_⟩
  obtain⟨sGG,x,hx,rx⟩:=En.yld G (D::O) i u G' (ok G ys sG gD) hlt y;intro Cf s2 H2 fp cl;have C' :=C.blk2 h Cf s2 H2 fp cl;have hd:xs.drop i=x::xs.drop (i+1):=by
   rw[FY hlt];rw[Dw hlt]at hx;rw[EJ hx]
  rw[hd]at hc1;unfold bD at hc1;cases hf:ie cd ifs' elt' n (caps.map fun i=>τ.getD i .un) x with
  | none=>rw[hf]at hc1;cases hc1
  | some r0 =>
   rw[hf]at hc1;cases hcr:bD (ie cd ifs' elt' n (caps.map fun i=>τ.getD i .un)) (xs.drop (i+1))with
   | none=>rw[hcr]at hc1;cases hc1
   | some w =>
    obtain⟨ws',mm'⟩:=w;rw[hcr]at hc1;unfold ie at hf;obtain⟨x1,x2,rfl⟩:∃x1 x2,x=.tup [x1,x2]:=by
     cases hp:iE x with
     | none=>rw[hp]at hf;cases hf
     | some w =>
      unfold iE at hp
      split at hp
      ·exact⟨_,_,rfl⟩
      ·cases hp
    have hf:((ft cd ifs' (.frz x1 (n||imm x1)::.frz x2 (n||imm x2)::caps.map fun i=>τ.getD i .un)).bind fun t=>if t then(aa cd elt' (.frz x1 (n||imm x1)::.frz x2 (n||imm x2)::caps.map fun i=>τ.getD i .un)).bind fun r=>r.keep.map some else some none)=some r0:=hf;obtain⟨pa,us,rfl,lt,rt⟩:=Rp.tup.mp rx;unfold aF at rt;obtain⟨u1,us1,rfl,ra,rt⟩:=rt;unfold aF at rt;obtain⟨u2,us2,rfl,rb,rt⟩:=rt;unfold aF at rt;subst rt;cases hco:ft cd ifs' (.frz x1 (n||imm x1)::.frz x2 (n||imm x2)::caps.map fun i=>τ.getD i .un)with
    | none=>rw[hco]at hf;cases hf
    | some k =>
     rw[hco]at hf;obtain⟨tt,ptt,qtt⟩:=hifs _ _ _ C' hco;have gD' :G' D=some (.lst ys):=sGG _ _ gD
     have RB:ah X.K Hi (D::O) (.frz x1 (n||imm x1)::.frz x2 (n||imm x2)::caps.map fun i=>τ.getD i .un) (some u1::some u2::az (caps.map some) σ) G' :=
      ((R.hide (s1.trans (sG.trans sGG)) (s1.free hD) gD').block (eT hc (EO.mp (EO.mp h5).2).2) rb.up).consF ra.up
     refine⟨_,tt,_,iC C'.calm (bM (aq (i:=0) h5 rfl (ef h6) (gw h6)) (bM (aq (i:=1) h5 rfl (ef h8) (gw h8)) fE rfl) rfl) rfl rfl,ptt,ae,?_⟩;refine⟨pa,_,rfl,(aW (O:=D::O)).tup lt,rfl,u1,_,rfl,u2,_,rfl,rfl,⟨jp (by simp[hlen]),?_⟩⟩;show tt (some u1::some u2::az (caps.map some) σ) G' _;refine qtt (D::O) _ G' _ RB fun G4 s4=> ?_;cases k with
     | false =>
      rw[Dz Dy];have hf:(some none:Option (Option (PV×Bool)))=some r0:=hf;cases hf;cases hc1;exact⟨xs.length-(i+1),by omega,rfl,hlt,sG.trans (sGG.trans s4),s4 _ _ gD',by omega,dn,ws,mm,hcr,hv,hn,hr.mono (aK (sGG.trans s4))⟩
     | true =>
      rw[D3 rfl];have hf:((aa cd elt' (.frz x1 (n||imm x1)::.frz x2 (n||imm x2)::caps.map fun i=>τ.getD i .un)).bind fun r=>r.keep.map some)=some r0:=hf;cases he:aa cd elt' (.frz x1 (n||imm x1)::.frz x2 (n||imm x2)::caps.map fun i=>τ.getD i .un)with
      | none=>rw[he]at hf;cases hf
      | some r =>
       rw[he]at hf;have hf:r.keep.map some=some r0:=hf;cases hk:r.keep with
       | none=>rw[hk]at hf;cases hf
       | some vn =>
        obtain⟨v,nv⟩:=vn;rw[hk]at hf;cases hf;have hc1:some (v::ws',nv&&mm')=some (ws,mm):=hc1;cases hc1;refine helt _ _ _ C' he (D::O) _ G4 _ (RB.ext s4) fun w G5 s5 r5=> ?_;have kp:=r5.keep (RB.ext s4) s5 hk;have gD5:=s5 _ _ (s4 _ _ gD');have sT:=sG.trans (sGG.trans (s4.trans s5));have hz' :xs.length<=16777216:=hz;refine⟨gD5,by rw[dS];omega,xs.length-(i+1),by omega,rfl,hlt,sT.upd hD,aD,by rw[EC];simp;omega,dn++[v],ws',mm',hcr,by rw[hv];simp,fun z=> ?_,?_⟩
        ·have:=hn z
         rw[Du]at this;exact this.2
        ·have e:aM (L2.upd G5 D (.lst (ys++[w]))) (D::O)=aM G5 (D::O):=by
          funext c
          unfold aM
          split
          ·rfl
          ·rename_i nc
           exact aB fun z=>nc (z▸Ds)
         rw[e];refine(hr.mono (aK (sGG.trans (s4.trans s5)))).app (.cons (kp.low fun z=> ?_) .nil);have:=hn z;rw[Du]at this;exact this.1
 ·have e:i=xs.length:=by omega
  subst e;rw[List.drop_length]at hc1;cases hc1;refine .inl ⟨En.stop G (D::O) (ok G ys sG gD),q _ _ (s1.trans sG) ?_⟩;refine⟨D,ys,rfl,s1.free hD,gD,?_⟩;rw[hv,Ey];refine hr.mono fun c o e=> ?_;unfold aM at e;unfold aM del
  split at e
  ·cases e
  ·rename_i nc
   have n1:c≠D:=fun z=>nc (z▸Ds);have n2:c∉O:=fun z=>nc (Dq _ z);rw[Dz n2,Dz n1];exact e
theorem wg{e:Expr}{t:TE}(h:PE X e t):PE X e (fun σ H Q=>t σ H fun v H' =>∃a o kvs,H' a=some (.frz o (.dK kvs))/\NF X a/\Q v (L2.upd H' a (.dK kvs))):=by
 intro pins s σ H Q I hr;refine aj (h pins s σ H _ I hr) fun u s1 q=> ?_;obtain⟨v,H',I',rv,a,o,kvs,ha,nf,q⟩:=q;exact⟨v,_,I'.unknown nf ha,rv,q⟩
theorem uQ{ra r:RV}(h:qm ra=some r):∃ks vs n qs,ra=.frz (.dK ks vs) n/\ks.length<=LN/\vf ks vs=some qs/\r=.own (qs.map fun q=>.tup [.int q.2,.int q.1]) true:=by
 unfold qm at h
 split at h
 ·split at h
  ·rename_i ks vs n hz
   cases e:vf ks vs with
   | none=>rw[e]at h;cases h
   | some qs=>rw[e]at h;cases h;exact⟨_,_,_,_,rfl,hz,e,rfl⟩
  ·cases h
 ·cases h
theorem pI{n:Bool}:∀{ks:List ac}{vs:List PV}{qs:List (Int×Int)}{G:Hp}{us:List V},vf ks vs=some qs->aF X.K Hi n vs G us->ks.zip us=qs.map (fun q=>(Sum.inl q.1,V.int q.2))/\qs.length=ks.length
 | [],vs,qs,G,us,h,r=>by
  cases vs with
  | nil=>cases h;exact⟨rfl,rfl⟩
  | cons v vs=>cases h
 | k::ks,vs,qs,G,us,h,r=>by
  cases vs with
  | nil=>cases k<;>cases h
  | cons v vs =>
   cases k with
   | inr z=>cases v<;>cases h
   | inl k =>
    cases v with
    | int v =>
     have h:(vf ks vs).map ((k,v)::·)=some qs:=h;cases e:vf ks vs with
     | none=>rw[e]at h;cases h
     | some ms =>
      rw[e]at h;cases h;unfold aF at r;obtain⟨u,us',rfl,r1,r2⟩:=r;obtain⟨e1,e2⟩:=pI e r2;have e4:=Rp.int.mp r1;subst e4;exact⟨by rw[Fe,e1];rfl,by simp[e2]⟩
    | _=>cases h
theorem wN{K:W.Frag}{G:Hp}{O:List Addr}{a b:Int}(ho:∀l∈O,∃o,G l=some o/\Mo o):ah K (fun _=>none) O [.frz (.int a) true,.frz (.int b) true] [some (.int a),some (.int b)] G:=by
 refine⟨fun _ _ e=>(by cases e),fun l hl=>⟨rfl,ho l hl⟩,fun j v m e=> ?_,fun j t bd ys m e ht=> ?_,fun i j t t' x y l e1 ht=> ?_⟩
 ·match j,e with
  | 0,e=>cases e;exact⟨_,rfl,Rp.int.mpr rfl⟩
  | 1,e=>cases e;exact⟨_,rfl,Rp.int.mpr rfl⟩
  | j+2,e=>simp at e
 ·match j,e with
  | 0,e=>cases e;cases ht
  | 1,e=>cases e;cases ht
  | j+2,e=>simp at e
 ·match i,e1 with
  | 0,e=>cases e;cases ht
  | 1,e=>cases e;cases ht
  | j+2,e=>simp at e
theorem jL{G G' :Hp}{O:List Addr}{p:Addr}{ob:Obj}{kvs:List (ac×V)}(hp:G p=some (.frz ob (.dK kvs))):∀{qs:List (Int×Int)}{ys:List V},aF X.K Hi true (qs.map fun q=>PV.tup [.int q.2,.int q.1]) (aM G O) ys->(∀c o,aM G O c=some o->c≠p->G' c=some o)->aF X.K Hi true (qs.map fun q=>PV.tup [.int q.2,.int q.1]) G' ys
 | [],ys,h,_=>h
 | q::qs,ys,h,m=>by
  rw[D2]at h ⊢;unfold aF at h;obtain⟨u,r,rfl,h1,h2⟩:=h;obtain⟨a,us,rfl,sq,r6⟩:=Rp.tup.mp h1;refine .cons (Rp.tup.mpr ⟨a,us,rfl,?_,?_⟩) (jL hp h2 m)
  ·have ne:∀o,aM G O a=some o->(∀ob' kvs',o≠.frz ob' (.dK kvs'))->a≠p:=fun o e hn z=>by
    subst z;have:=aW _ _ e;rw[hp]at this;cases this;exact hn _ _ rfl
   rcases sq with(sq|⟨ob',sq⟩)|sq
   ·exact .inl (.inl (m _ _ sq (ne _ sq fun _ _ z=>by cases z)))
   ·exact .inl (.inr ⟨ob',m _ _ sq (ne _ sq fun _ _ z=>by cases z)⟩)
   ·exact .inr sq
  ·unfold aF at r6 ⊢
   obtain⟨u1,t1,rfl,q1,r6⟩:=r6;refine⟨u1,t1,rfl,Rp.int.mpr (Rp.int.mp q1),?_⟩;unfold aF at r6 ⊢;obtain⟨u2,t2,rfl,q2,r6⟩:=r6;exact⟨u2,t2,rfl,Rp.int.mpr (Rp.int.mp q2),r6⟩
theorem qG{σ:L2.St}{H:Hp}{A B:Hp->Prop}(q:A H):sf σ H (fun b H4=>if b=true then A H4 else B H4):=iR (B:=B H) q
theorem AX{cd:Nat->List PV->Option PV}{ct:Ct}(C:bQ cd X ct){d:Expr}{ra r:RV}{x y:Str}{p1 p2 p3 p4 p5 p6 lp ap cp:Pos}{k k2:Nat}{scope:Scope}(h:fJ ct x y scope=true)(hf:frees scope=[])
  (v0:bY (blk2 ct x y scope) x=.var 0) (v1:bY (blk2 ct x y scope) y=.var 1) (hsub:plainB d=true) (hline:(ap.endLine==cp.line)=true) (hd:aH X Hi τ d ra) (hr:qm ra=some r) :
  aH X Hi τ (.ListComp (.Tuple [.Name y p4,.Name x p5] k2 p6) [⟨.Tuple [.Name x p1,.Name y p2] k p3,.Call (.Attribute d "items" ap) [] [] cp,[],0⟩] scope lp) r:=by
 obtain⟨ks,vs,nn,qs,rfl,hz,hs,rfl⟩:=uQ hr;obtain⟨h1,h2,h3,h4,h5,h6,h8,h7⟩:=dm h;have hc:slots ct.N (frees scope)=some []:=by rw[hf];rfl
 have hsrc:bA X scope (x::y::frees scope) (none::none::[]):=eh C hc fun z hz=>⟨h7 z hz,h4 _ (ER (h7 z hz)) rfl⟩;have hfr:cv X.env.scope scope=true:=by
  unfold cv;rw[EG];intro y hy;rw[C.S]
  by_cases e:y.2=.free
  ·rcases h4 y hy e with z|z<;>simp[e,z]
  ·simp[e]
 have hbase:attributeBase d "items" X.env (eval d X.env)=eval d X.env:=by
  cases d<;>first|rfl|cases hsub
 intro O σ H Q R q;refine we (wg (tj C.calm (mL ae hbase hline) hsrc h1 h2 h3 hfr (fun _=>rfl))) ?_;refine hd O σ H _ R fun u H1 s1 r1=> ?_;have r1:Rp X.K Hi nn (.dK ks vs) (aM H1 O) u:=r1;unfold Rp at r1;obtain⟨p,us,rfl,_,hp,hl,rl⟩:=r1;obtain⟨e1,e2⟩:=pI hs rl;have hpO:p∉O:=fun z=>by unfold aM at hp;rw[D3 z]at hp;cases hp
 have hp:=aW _ _ hp;rw[e1]at hp;refine⟨p,_,rfl,hp,fun o nf D hD=> ?_⟩;have hDp:D≠p:=fun e=>by subst e;rw[aD]at hD;cases hD
 have hD1:H1 D=none:=by rw[aB hDp]at hD;exact hD
 have hp' :∀G,aC (L2.upd H1 p (.frz o (.dK (qs.map fun q=>(Sum.inl q.1,V.int q.2))))) G->G p=some (.frz o (.dK (qs.map fun q=>(Sum.inl q.1,V.int q.2)))):=fun G s=>s _ _ aD;have hO:∀G ys,aC (L2.upd H1 p (.frz o (.dK (qs.map fun q=>(Sum.inl q.1,V.int q.2))))) G->G D=some (.lst ys)->∀l∈D::O,∃ob,G l=some ob/\Mo ob:=fun G ys sG gD l hl=>by
  rcases D8.mp hl with rfl|hl
  ·exact⟨_,gD,.lst⟩
  ·obtain⟨ob,e,mo⟩:=(R.own l hl).2
   exact⟨ob,sG _ _ (by rw[aB (fun z:l=p=>hpO (by rw[<- z];exact hl))];exact s1 _ _ e),mo⟩
 refine⟨fun i m ys G=>m=qs.length-i/\i<=qs.length/\aC (L2.upd H1 p (.frz o (.dK (qs.map fun q=>(Sum.inl q.1,V.int q.2))))) G/\G D=some (.lst ys)/\ys.length=i/\aF X.K Hi true ((qs.take i).map fun q=>PV.tup [.int q.2,.int q.1]) (aM G (D::O)) ys,
  ⟨qs.length,by simp,EY _,aJ hD _,aD,rfl,.nil⟩,?_⟩
 rintro j m ys G ⟨rfl,hj,sG,gD,hyl,hv⟩
 by_cases hlt:j<qs.length
 ·refine .inr ⟨⟨hp' G sG,by rw[Dp];exact hlt⟩,fun u G' y' => ?_⟩
  obtain⟨a,ha,rfl,y'⟩:=y';have e:=y' (.inl qs[j].1) (.int qs[j].2) (by simp[hlt]);subst e;intro Cf s2 H2 fp cl;have C' :=C.blk2 h Cf s2 H2 fp cl;have sGG:aC G (L2.upd G a (.tup [kV (.inl qs[j].1),.int qs[j].2])):=aJ ha _;refine⟨_,_,_,iC C'.calm (bM (aq (i:=0) h5 rfl (ef h6) (gw h6)) (bM (aq (i:=1) h5 rfl (ef h8) (gw h8)) fE rfl) rfl) rfl rfl,fD,ae,?_⟩;refine⟨a,_,rfl,cJ.of aD,rfl,_,_,rfl,_,_,rfl,rfl,⟨jp (by rw[hf];rfl),?_⟩⟩;have eσ:((az (none::none::[]) σ).set 0 (some (kV (.inl qs[j].1)))).set 1 (some (.int qs[j].2))=[some (.int qs[j].1),some (.int qs[j].2)]:=by
   simp[az,kV]
  rw[eσ];have hn0:aa cd (bY (blk2 ct x y scope) x) [.frz (.int qs[j].1) true,.frz (.int qs[j].2) true]=some (sc (.int qs[j].1)):=by rw[v0];rfl
  have hn1:aa cd (bY (blk2 ct x y scope) y) [.frz (.int qs[j].1) true,.frz (.int qs[j].2) true]=some (sc (.int qs[j].2)):=by rw[v1];rfl
  have gD' :=sGG _ _ gD;have RB:=wN (K:=X.K) (O:=D::O) (a:=qs[j].1) (b:=qs[j].2) (hO _ _ (sG.trans sGG) gD');refine qG ?_
  have hT:aH (aw X (x::y::frees scope) scope Cf s2 H2 fp cl) (fun _=>none) [.frz (.int qs[j].1) true,.frz (.int qs[j].2) true] (.Tuple [.Name y p4,.Name x p5] k2 p6) (.frz (.tup [.int qs[j].2,.int qs[j].1]) true) :=
   sR (ky (kR C' hn1) rfl (ky (kR C' hn0) rfl vN)) rfl rfl
  refine hT (D::O) _ _ _ RB fun w G5 s5 r5=> ?_;have r5:Rp X.K (fun _=>none) true (.tup [.int qs[j].2,.int qs[j].1]) (aM G5 (D::O)) w:=r5;obtain⟨a5,us5,rfl,sq5,r6⟩:=Rp.tup.mp r5;have r6:us5=[.int qs[j].2,.int qs[j].1]:=by
   unfold aF at r6;obtain⟨u1,t1,rfl,q1,r6⟩:=r6;unfold aF at r6;obtain⟨u2,t2,rfl,q2,r6⟩:=r6;unfold aF at r6;rw[r6,Rp.int.mp q1,Rp.int.mp q2]
  subst r6;have hz' :ks.length<=16777216:=hz;have sT:=sG.trans (sGG.trans s5);refine⟨s5 _ _ gD',by rw[dS];omega,qs.length-(j+1),by omega,rfl,hlt,sT.upd hD,aD,by rw[EC,hyl];rfl,?_⟩;have e:aM (L2.upd G5 D (.lst (ys++[.ref a5]))) (D::O)=aM G5 (D::O):=by
   funext c
   unfold aM
   split
   ·rfl
   ·rename_i nc
    exact aB fun z=>nc (z▸Ds)
  rw[e,FJ,Dw hlt,EF];exact(hv.mono (aK (sGG.trans s5))).app (.cons (Rp.tup.mpr ⟨a5,_,rfl,sq5,.cons (Rp.int.mpr rfl) (.cons (Rp.int.mpr rfl) .nil)⟩) .nil)
 ·have e:j=qs.length:=by omega
  subst e;refine .inl ⟨⟨hp' G sG,by rw[Dp]⟩,p,o,_,hp' G sG,nf,?_⟩;refine q _ _ (fun b ob e=> ?_) ⟨D,ys,rfl,s1.free hD1,by rw[aB hDp];exact gD,?_⟩
  ·have e' :=s1 _ _ e
   by_cases hb:b=p
   ·subst hb
    rw[hp]at e';cases e';exact aD
   ·rw[aB hb]
    exact sG _ _ (by rw[aB hb];exact e')
  ·rw[Es]at hv
   refine jL (p:=p) (hp' G sG) hv fun c ob e nc=> ?_;unfold aM at e;unfold aM del
   split at e
   ·cases e
   ·rename_i nc2
    have n1:c≠D:=fun z=>nc2 (z▸Ds);have n2:c∉O:=fun z=>nc2 (Dq _ z);rw[Dz n2,Dz n1,aB nc];exact e
end
theorem bind_some{α β:Type}{o:Option α}{f:α->Option β}{b:β}(h:o.bind f=some b):∃a,o=some a/\f a=some b:=by
 cases o with
 | none=>cases h
 | some a=>exact⟨a,rfl,h⟩
theorem map_some{α β:Type}{o:Option α}{f:α->β}{b:β}(h:o.map f=some b):∃a,o=some a/\f a=b:=by
 cases o with
 | none=>cases h
 | some a=>exact⟨a,rfl,EJ h⟩
structure gc(cd:Nat->List PV->Option PV)(n:Nat):Prop where
 e:∀(X:Cx)(ct:Ct)(Hi:Hp)(τ:En)(e:Expr)(r:RV),bQ cd X ct->aa cd (ai n ct e) τ=some r->aH X Hi τ e r
 cm:∀(X:Cx)(ct:Ct)(Hi:Hp)(τ:En)(a:Expr)(ops:List CmpOp)(cs:List Expr)(pos:Pos)(r:RV),bQ cd X ct->aa cd (ai n ct (.Compare a ops cs pos)) τ=some r->∃t,r=sc (.bl t)/\dh X Hi τ (.Compare a ops cs pos) t
 es:∀(X:Cx)(ct:Ct)(Hi:Hp)(τ:En)(es:List Expr)(rs:List RV),bQ cd X ct->dF cd (dO n ct es) τ=some rs->lC X Hi τ es rs/\(∀a∈es,aS a=false)/\es.length=rs.length/\∀(i:Nat)(a:Expr)(r:RV),es[i]? =some a->rs[i]? =some r->aH X Hi τ a r
 o:∀(X:Cx)(ct:Ct)(Hi:Hp)(τ:En)(e:Option Expr)(o:Option RV)(i:Option Int),bQ cd X ct->A6 cd (yS n ct e) τ=some o->oK o=some i->rR X Hi τ e i
 c:∀(X:Cx)(ct:Ct)(Hi:Hp)(τ:En)(e:Expr)(b:Bool),bQ cd X ct->du cd (jN n ct e) τ=some b->dh X Hi τ e b
 call:∀(X:Cx)(ct:Ct)(Hi:Hp)(τ:En)(x:Str)(es:List Expr)(p pos:Pos)(r:RV),bQ cd X ct->aa cd (ff n ct x es) τ=some r->aH X Hi τ (.Call (.Name x p) es [] pos) r
 mth:∀(X:Cx)(ct:Ct)(Hi:Hp)(τ:En)(o:Expr)(m:Str)(es:List Expr)(ap cp:Pos)(r:RV),bQ cd X ct->(ap.endLine==cp.line)=true->aa cd (jM n ct o m es) τ=some r->aH X Hi τ (.Call (.Attribute o m ap) es [] cp) r
 t:∀(X:Cx)(ct:Ct)(Hi:Hp)(τ:En)(tp:Bool)(e tg:Expr)(xs:List PV)(k b:Bool),bQ cd X ct->(tp=true->∃ts kk p,tg=.Tuple ts kk p)->nQ cd (sW n ct tp e) τ=some (xs,k,b)->nN X Hi τ tg e xs k b/\cq e=false
section
variable{cd:Nat->List PV->Option PV}
theorem gB{v:PV}{b:Bool}(h:ik v=some b):v=.bl b:=by
 cases v<;>first|(cases h;done)|(cases h;rfl)
theorem uc{v:PV}{b:Int}(h:Al v=some b):v=.int b:=by
 cases v<;>first|(cases h;done)|(cases h;rfl)
theorem oC{α:Type}{l:List α}(h:l.length=1):∃a,l=[a]:=by
 cases l with
 | nil=>cases h
 | cons a l =>
  cases l with
  | nil=>exact⟨a,rfl⟩
  | cons b l=>cases h
theorem sQ{α:Type}{l:List α}(h:l.length=2):∃a b,l=[a,b]:=by
 cases l with
 | nil=>cases h
 | cons a l =>
  obtain⟨b,rfl⟩:=oC (show l.length=1 from Nat.succ.inj h);exact⟨a,b,rfl⟩
theorem aO{τ:En}{r:RV}(h:aa cd .never τ=some r){P:Prop}:P:=by simp[cD,bv,cG,cN,cE,cQ,cK,cL,cO,cF,cH,b5,b6,bw,cP,cC,cB,bx,bz,cA,b9,b7,cM]at h
theorem mf{X:Cx}{Hi:Hp}{τ:En}{op:BoolOp}{pos:Pos}{f:Expr->IE}(hf:∀e r,aa cd (f e) τ=some r->aH X Hi τ e r):∀{vs:List Expr}{r:RV},aa cd (iY op (vs.map f)) τ=some r->aH X Hi τ (.BoolOp op vs pos) r
 | [],r,h=>aO h
 | [a],r,h=>AK (hf a r h)
 | a::b::aN,r,h=>by
  have ih:= @mf X Hi τ op pos f hf (b::aN);cases op with
  | And =>
   have h:aa cd (.and (f a) (iY .And ((b::aN).map f))) τ=some r:=h;simp only[cD,bv,cG,cN,cE,cQ,cK,cL,cO,cF,cH,b5,b6,bw,cP,cC,cB,bx,bz,cA,b9,b7,cM]at h;obtain⟨x,hx,h⟩:=bind_some h;have hx:=hf a x hx;obtain⟨t,ht,h⟩:=bind_some h;have e:=gB ht;cases t with
   | true=>exact DS hx e (ih h)
   | false=>cases h;exact DT hx e
  | Or =>
   have h:aa cd (.or (f a) (iY .Or ((b::aN).map f))) τ=some r:=h;simp only[cD,bv,cG,cN,cE,cQ,cK,cL,cO,cF,cH,b5,b6,bw,cP,cC,cB,bx,bz,cA,b9,b7,cM]at h;obtain⟨x,hx,h⟩:=bind_some h;have hx:=hf a x hx;obtain⟨t,ht,h⟩:=bind_some h;have e:=gB ht;cases t with
   | true=>cases h;exact or_t hx e
   | false=>exact or_f hx e (ih h)
theorem me{X:Cx}{Hi:Hp}{τ:En}{op:BoolOp}{pos:Pos}{f:Expr->IC}(hf:∀e b,du cd (f e) τ=some b->dh X Hi τ e b):∀{vs:List Expr}{b:Bool},du cd (iX op (vs.map f)) τ=some b->jI X Hi τ (.BoolOp op vs pos) b
 | [],r,h=>by
  have h:du cd (.val .never) τ=some r:=h;simp[sD,va,sF,sE,cD,bv,cG,cN,cE,cQ,cK,cL,cO,cF,cH,b5,b6,bw,cP,cC,cB,bx,bz,cA,b9,b7,cM]at h
 | [a],r,h=>AJ (hf a r h)
 | a::b::aN,r,h=>by
  have ih:= @me X Hi τ op pos f hf (b::aN);cases op with
  | And =>
   have h:du cd (.and (f a) (iX .And ((b::aN).map f))) τ=some r:=h;simp only[sD,va,sF,sE]at h;obtain⟨x,hx,h⟩:=bind_some h;have hx:=hf a x hx;cases x with
   | true=>exact vP hx (ih h)
   | false=>cases h;exact vP hx rfl
  | Or =>
   have h:du cd (.or (f a) (iX .Or ((b::aN).map f))) τ=some r:=h;simp only[sD,va,sF,sE]at h;obtain⟨x,hx,h⟩:=bind_some h;have hx:=hf a x hx;cases x with
   | true=>cases h;exact yd hx rfl
   | false=>exact yd hx (ih h)
theorem pR{X:Cx}{Hi:Hp}{τ:En}{f:Expr->IE}(hf:∀e r,aa cd (f e) τ=some r->aH X Hi τ e r):∀{es:List Expr}{rs:List RV},dF cd (qi (es.map fun e=>if aS e then .never else f e)) τ=some rs->lC X Hi τ es rs/\(∀a∈es,aS a=false)/\es.length=rs.length/\∀(i:Nat)(a:Expr)(r:RV),es[i]? =some a->rs[i]? =some r->aH X Hi τ a r
 | [],rs,h=>by
  have h:some []=some rs:=by simpa [qi,vY,vZ]using h
  cases h;exact⟨vN,fun a ha=>(by cases ha),rfl,fun i a r e=>(by simp at e)⟩
 | e::es,rs,h=>by
  have h:dF cd (.cons (if aS e then .never else f e) (qi (es.map fun e=>if aS e then .never else f e))) τ=some rs:=h;simp only[vY,vZ]at h;obtain⟨x,hx,h⟩:=bind_some h;obtain⟨ys,hy,h⟩:=map_some h;subst h;obtain⟨i1,i2,i3,i4⟩:=pR hf hy;cases hs:aS e with
  | true=>rw[hs]at hx;exact aO hx
  | false =>
   rw[hs]at hx;refine⟨ky (hf e x hx) hs i1,fun a ha=> ?_,by rw[ED,ED,i3],fun i a r e1 e2=> ?_⟩
   ·rcases D8.mp ha with rfl|ha
    ·exact hs
    ·exact i2 a ha
   ·cases i with
    | zero =>
     simp at e1 e2;subst e1 e2;exact hf _ _ hx
    | succ i=>exact i4 i a r (by simpa using e1) (by simpa using e2)
theorem DE{n:Nat}(IH:gc cd n){X:Cx}{ct:Ct}{Hi:Hp}{τ:En}{a:Expr}{ops:List CmpOp}{cs:List Expr}{pos:Pos}{r:RV}(C:bQ cd X ct)(h:aa cd (ai (n+1) ct (.Compare a ops cs pos)) τ=some r) :
  ∃t,r=sc (.bl t)/\aH X Hi τ (.Compare a ops cs pos) r/\dh X Hi τ (.Compare a ops cs pos) t:=by
 simp only[lV,lQ,lL,lU,lI,lR,lT,lO,lN,lJ,lP,lK,lS,lM]at h
 split at h
 ·rename_i op b
  split at h
  ·exact aO h
  ·rename_i hs
   have hs:=FU.mpr hs;simp only[cD,bv,cG,cN,cE,cQ,cK,cL,cO,cF,cH,b5,b6,bw,cP,cC,cB,bx,bz,cA,b9,b7,cM]at h;obtain⟨x,hx,h⟩:=bind_some h;obtain⟨y,hy,h⟩:=bind_some h;obtain⟨t,ht,h⟩:=map_some h;subst h;have ha:=IH.e X ct Hi τ a x C hx;have hb:=IH.e X ct Hi τ b y C hy;exact⟨t,rfl,BJ C.un ha hb hs ht,BI C.un ha hb hs ht⟩
 ·exact aO h
theorem DI{n:Nat}(IH:gc cd n){X:Cx}{ct:Ct}{Hi:Hp}{τ:En}{x:Str}{es:List Expr}{p pos:Pos}{r:RV}(C:bQ cd X ct)(h:aa cd (ff (n+1) ct x es) τ=some r):aH X Hi τ (.Call (.Name x p) es [] pos) r:=by
 simp only[z1h,z1i]at h
 split at h
 ·exact aO h
 rename_i ho;have ho:=FU.mpr ho
 split at h
 ·rename_i hg
  have hg:ct.S.lookup x=some .globalImplicit:=by simpa using hg
  cases hf:ct.F.lookup x with
  | some f =>
   rw[hf]at h;dsimp only at h;cases es with
   | nil=>exact aO h
   | cons e es =>
    simp only[cD,bv,cG,cN,cE,cQ,cK,cL,cO,cF,cH,b5,b6,bw,cP,cC,cB,bx,bz,cA,b9,b7,cM]at h;obtain⟨rs,hrs,h⟩:=bind_some h;obtain⟨v,hv,h⟩:=map_some h;subst h;obtain⟨i1,i2,i3,i4⟩:=IH.es X ct Hi τ (e::es) rs C hrs;exact xy C ho hg hf i2 i1 hv
  | none =>
   rw[hf]at h;dsimp only at h
   split at h
   ·rename_i hb
    have hown:own ct x=true:=by
     unfold own;rw[hb,hg];rfl
    have plain:∀{es:List Expr}{r:RV},aa cd (match il x es.length with|some f=>IE.bf f (dO n ct es)|none=>.never) τ=some r->aH X Hi τ (.Call (.Name x p) es [] pos) r:=by
     intro es r h;cases hbf:il x es.length with
     | none=>rw[hbf]at h;exact aO h
     | some f =>
      rw[hbf]at h;simp only[cD,bv,cG,cN,cE,cQ,cK,cL,cO,cF,cH,b5,b6,bw,cP,cC,cB,bx,bz,cA,b9,b7,cM]at h;obtain⟨rs,hrs,h⟩:=bind_some h;obtain⟨i1,i2,i3,i4⟩:=IH.es X ct Hi τ es rs C hrs;have one:∀a,es=[a]->aH X Hi τ (.Call (.Name x p) es [] pos) r:=by
       intro a ea;subst ea;obtain⟨ra,rfl⟩:=oC (show rs.length=1 from i3.symm);exact vK C hown hbf (i2 a (by simp)) (i4 0 a ra rfl rfl) h
      have two:∀a b,es=[a,b]->aH X Hi τ (.Call (.Name x p) es [] pos) r:=by
       intro a b ea;subst ea;obtain⟨ra,rb,rfl⟩:=sQ (show rs.length=2 from i3.symm);exact BQ C hown hbf (i2 a (by simp)) (i2 b (by simp)) (i4 0 a ra rfl rfl) (i4 1 b rb rfl rfl) h
      have hk:es.length=1\/es.length=2:=by
       rcases gE hbf with⟨_,z,_⟩|⟨_,z,_⟩|⟨_,z,_⟩|⟨_,z,_⟩|⟨_,z,_⟩|⟨_,z,_⟩|⟨_,z,_⟩|⟨_,z,_⟩|⟨_,z,_⟩|⟨_,z,_⟩|⟨_,z,_⟩<;>simp[z]
      rcases hk with hk|hk
      ·obtain⟨a,ha⟩:=oC hk
       exact one a ha
      ·obtain⟨a,b,ha⟩:=sQ hk
       exact two a b ha
    split at h
    ·exact aO h
    ·split at h
     ·rename_i o m ap cp
      split at h
      ·rename_i hc
       simp only[Du]at hc;obtain⟨⟨⟨hx,hy⟩,hp⟩,hl⟩:=hc;have hx:=EN hx;have hy:=EN hy;subst hx hy;simp only[cD,bv,cG,cN,cE,cQ,cK,cL,cO,cF,cH,b5,b6,bw,cP,cC,cB,bx,bz,cA,b9,b7,cM,vY,vZ]at h;obtain⟨rs,hrs,h⟩:=bind_some h;obtain⟨ra,hra,h2⟩:=bind_some hrs;cases h2;exact v7 C hown hp hl (IH.e X ct Hi τ o ra C hra) h
      ·split at h
       ·rename_i hc
        simp only[Du]at hc;obtain⟨⟨⟨hx,hy⟩,hp⟩,hl⟩:=hc;have hx:=EN hx;have hy:=EN hy;subst hx hy;simp only[cD,bv,cG,cN,cE,cQ,cK,cL,cO,cF,cH,b5,b6,bw,cP,cC,cB,bx,bz,cA,b9,b7,cM,vY,vZ]at h;obtain⟨rs,hrs,h⟩:=bind_some h;obtain⟨ra,hra,h2⟩:=bind_some hrs;cases h2;exact uM C hown hp hl (IH.e X ct Hi τ o ra C hra) h
       ·exact plain h
     ·rename_i elt gs scope lp
      split at h
      ·rename_i d iz
       obtain⟨rfl,hsub,x,y,p1,p2,k,p3,ap,cp,p4,p5,k2,p6,rfl,rfl,hl,g1,g2,g3,g4⟩:=qH iz;simp only[cD,bv,cG,cN,cE,cQ,cK,cL,cO,cF,cH,b5,b6,bw,cP,cC,cB,bx,bz,cA,b9,b7,cM,vY,vZ]at h;obtain⟨rs,hrs,h⟩:=bind_some h;obtain⟨rl,hrl,h2⟩:=bind_some hrs;obtain⟨ra,hra,h3⟩:=bind_some hrl;cases h2;exact vK C hown (show il ("sorted":Str) 1=some .sorted from rfl) rfl (AX C g1 g2 g3 g4 hsub hl (IH.e X ct Hi τ d ra C hra) h3) h
      ·exact plain h
     ·exact plain h
   ·exact aO h
 ·exact aO h
theorem mthE{n:Nat}(IH:gc cd n){X:Cx}{ct:Ct}{Hi:Hp}{τ:En}{o:Expr}{m:Str}{es:List Expr}{ap cp:Pos}{r:RV}(C:bQ cd X ct)(hl:(ap.endLine==cp.line)=true)(h:aa cd (jM (n+1) ct o m es) τ=some r):aH X Hi τ (.Call (.Attribute o m ap) es [] cp) r:=by
 simp only[z23,z24]at h
 split at h
 ·rename_i hp
  split at h
  ·rename_i a
   split at h
   ·exact aO h
   ·rename_i hs
    have hs:=FU.mpr hs
    split at h
    ·rename_i hm
     have hm:=EN hm;subst hm;simp only[cD,bv,cG,cN,cE,cQ,cK,cL,cO,cF,cH,b5,b6,bw,cP,cC,cB,bx,bz,cA,b9,b7,cM,vY,vZ]at h;obtain⟨ro,hro,h⟩:=bind_some h;obtain⟨rs,hrs,h⟩:=bind_some h;obtain⟨ra,hra,h2⟩:=bind_some hrs;cases h2;exact xO hp hl hs (IH.e X ct Hi τ o ro C hro) (IH.e X ct Hi τ a ra C hra) h
    ·exact aO h
  ·exact aO h
 ·exact aO h
theorem C1{n:Nat}(IH:gc cd n){X:Cx}{ct:Ct}{Hi:Hp}{τ:En}{tp:Bool}{e tg:Expr}{xs:List PV}{k b:Bool}(C:bQ cd X ct)(ht:tp=true->∃ts kk p,tg=.Tuple ts kk p)(h:nQ cd (sW (n+1) ct tp e) τ=some (xs,k,b)):nN X Hi τ tg e xs k b/\cq e=false:=by
 simp only[z2m,z2n]at h
 split at h
 ·simp[yv,yw,yx,Bo]at h
 rename_i hset;have hset:=FU.mpr hset;refine⟨?_,hset⟩;have seq:nQ cd (.seq (ai n ct e)) τ=some (xs,k,b)->nN X Hi τ tg e xs k b:=by
  intro h;simp only[yv,yw,yx,Bo]at h;obtain⟨r,hr,h⟩:=bind_some h;exact zP (IH.e X ct Hi τ e r C hr) h
 have nv:∀{P:Prop},nQ cd .never τ=some (xs,k,b)->P:=by
  intro P h;simp[yv,yw,yx,Bo]at h
 split at h
 ·rename_i x es hc
  obtain⟨p,pos,rfl⟩:∃p pos,e=.Call (.Name x p) es [] pos:=by
   unfold ku at hc
   split at hc
   ·cases hc;exact⟨_,_,rfl⟩
   ·cases hc
  split at h
  ·rename_i hx
   have hx:=EN hx;subst hx
   split at h
   ·rename_i ho
    simp only[yv,yw,yx,Bo]at h;obtain⟨rs,hrs,h⟩:=bind_some h;obtain⟨ys,hy,h⟩:=map_some h;cases h;obtain⟨i1,i2,i3,i4⟩:=IH.es X ct Hi τ es rs C hrs;exact zf C ho i2 i1 i3 hy
   ·exact nv h
  ·split at h
   ·exact nv h
   ·split at h
    ·rename_i hx
     have hx:=EN hx;subst hx
     split at h
     ·rename_i a
      split at h
      ·exact nv h
      ·rename_i hc
       simp only[Fw,not_or,Bool.not_eq_true,Bool.not_eq_true']at hc;obtain⟨⟨c1,c3⟩,c4⟩:=hc;obtain⟨ts,kk,tpos,rfl⟩:=ht (by simpa using c3);simp only[yv,yw,yx,Bo]at h;obtain⟨ra,hra,h⟩:=bind_some h;obtain⟨w,hw,h⟩:=map_some h;cases h;exact xc C (by simpa using c4) c1 (IH.e X ct Hi τ _ ra C hra) hw
     ·exact nv h
    ·exact seq h
 ·exact seq h
theorem lcE{n:Nat}(IH:gc cd n){X:Cx}{ct:Ct}{Hi:Hp}{τ:En}{elt:Expr}{gs:List Comprehension}{scope:Scope}{pos:Pos}{r:RV}(C:bQ cd X ct)(h:aa cd (ai (n+1) ct (.ListComp elt gs scope pos)) τ=some r) :
  ∃tg iter ifs N' src,gs=[⟨tg,iter,ifs,0⟩]/\bA X scope N' src/\scope.kind=.function/\(∀y∈scope.names,y.2=.cell->scope.names.lookup y.1=some .cell)/\(∀y∈scope.names,y.2=.local->scope.names.lookup y.1=some .local)/\cv X.env.scope scope=true/\cq iter=false /\
   ∀(O:List Addr)(σ:L2.St)(H:Hp)(Q:VK),ah X.K Hi O τ σ H->(∀u H',aC H H' ->aZ X.K Hi O H H' r u->Q u H')->Bp X N' src scope tg ifs elt (fun σ H R=>WI X tg iter σ H R) σ H Q:=by
 simp only[lV,lQ,lL,lU,lI,lR,lT,lO,lN,lJ,lP,lK,lS,lM]at h
 split at h
 ·rename_i t tp iter ifs
  split at h
  ·rename_i hlc
   cases hc:slots ct.N (frees scope)with
   | none=>rw[hc]at h;exact aO h
   | some caps =>
    rw[hc]at h;simp only[cD,bv,cG,cN,cE,cQ,cK,cL,cO,cF,cH,b5,b6,bw,cP,cC,cB,bx,bz,cA,b9,b7,cM]at h;obtain⟨w,hw,h⟩:=bind_some h;obtain⟨xs,n',b⟩:=w;dsimp only at h
    split at h
    ·rename_i hz
     obtain⟨w2,hw2,h⟩:=map_some h;obtain⟨VS,NN⟩:=w2;subst h;obtain⟨iz,hset⟩:=IH.t X ct Hi τ false iter (.Name t tp) xs n' b C (fun z=>by cases z) hw;obtain⟨g1,g2,g3,g4,g5,g6,g7⟩:=iN hlc;obtain⟨q1,q2,q3⟩:=xL (elt:=elt) (ifs:=ifs) C hlc hc hset iz hz (fun X' τ' k C' hk=>by
      split at hk
      ·simp only[yz,yy]at hk
       cases hk;exact⟨_,fD,fun O σ H Q R q=>q H (aC.refl _)⟩
      ·rename_i c
       simp only[yz,yy]at hk;exact⟨_,mD i9,fun O σ H Q R q=>IH.c X' _ Hi τ' _ k C' hk O σ H Q R q⟩
      ·simp[yz,yy,sD,va,sF,sE,cD,bv,cG,cN,cE,cQ,cK,cL,cO,cF,cH,b5,b6,bw,cP,cC,cB,bx,bz,cA,b9,b7,cM]at hk) (fun X' τ' r' C' hr' =>IH.e X' _ Hi τ' elt r' C' hr') hw2
     exact⟨.Name t tp,iter,ifs,_,_,rfl,q1,g1,g2,g3,q2,hset,q3⟩
    ·cases h
  ·exact aO h
 ·rename_i t tp t2 tp2 kk tpp iter ifs
  split at h
  ·rename_i hlc
   cases hc:slots ct.N (frees scope)with
   | none=>rw[hc]at h;exact aO h
   | some caps =>
    rw[hc]at h;simp only[cD,bv,cG,cN,cE,cQ,cK,cL,cO,cF,cH,b5,b6,bw,cP,cC,cB,bx,bz,cA,b9,b7,cM]at h;obtain⟨w,hw,h⟩:=bind_some h;obtain⟨xs,n',b⟩:=w;dsimp only at h
    split at h
    ·rename_i hz
     obtain⟨w2,hw2,h⟩:=map_some h;obtain⟨VS,NN⟩:=w2;subst h;obtain⟨iz,hset⟩:=IH.t X ct Hi τ true iter (.Tuple [.Name t tp,.Name t2 tp2] kk tpp) xs n' b C (fun _=>⟨_,_,_,rfl⟩) hw;obtain⟨g1,g2,g3,g4,g5,g6,g8,g7⟩:=dm hlc;obtain⟨q1,q2,q3⟩:=uR (elt:=elt) (ifs:=ifs) C hlc hc hset iz hz (fun X' τ' k C' hk=>by
      split at hk
      ·simp only[yz,yy]at hk
       cases hk;exact⟨_,fD,fun O σ H Q R q=>q H (aC.refl _)⟩
      ·rename_i c
       simp only[yz,yy]at hk;exact⟨_,mD i9,fun O σ H Q R q=>IH.c X' _ Hi τ' _ k C' hk O σ H Q R q⟩
      ·simp[yz,yy,sD,va,sF,sE,cD,bv,cG,cN,cE,cQ,cK,cL,cO,cF,cH,b5,b6,bw,cP,cC,cB,bx,bz,cA,b9,b7,cM]at hk) (fun X' τ' r' C' hr' =>IH.e X' _ Hi τ' elt r' C' hr') hw2
     exact⟨.Tuple [.Name t tp,.Name t2 tp2] kk tpp,iter,ifs,_,_,rfl,q1,g1,g2,g3,q2,hset,q3⟩
    ·cases h
  ·exact aO h
 ·exact aO h
theorem expE{n:Nat}(IH:gc cd n){X:Cx}{ct:Ct}{Hi:Hp}{τ:En}{e:Expr}{r:RV}(C:bQ cd X ct)(h:aa cd (ai (n+1) ct e) τ=some r):aH X Hi τ e r:=by
 cases e with
 | Constant c k pos=>simp only[lV,lQ,lL,lU,lI,lR,lT,lO,lN,lJ,lP,lK,lS,lM]at h;exact uy h
 | Name x pos=>simp only[lV,lQ,lL,lU,lI,lR,lT,lO,lN,lJ,lP,lK,lS,lM]at h;exact kR C h
 | BinOp a op b pos =>
  simp only[lV,lQ,lL,lU,lI,lR,lT,lO,lN,lJ,lP,lK,lS,lM,cD,bv,cG,cN,cE,cQ,cK,cL,cO,cF,cH,b5,b6,bw,cP,cC,cB,bx,bz,cA,b9,b7,cM]at h;obtain⟨x,hx,h⟩:=bind_some h;obtain⟨y,hy,h⟩:=bind_some h;exact vH (IH.e X ct Hi τ a x C hx) (IH.e X ct Hi τ b y C hy) h
 | UnaryOp op a pos =>
  simp only[lV,lQ,lL,lU,lI,lR,lT,lO,lN,lJ,lP,lK,lS,lM]at h;cases op with
  | USub =>
   simp only[cD,bv,cG,cN,cE,cQ,cK,cL,cO,cF,cH,b5,b6,bw,cP,cC,cB,bx,bz,cA,b9,b7,cM]at h;obtain⟨x,hx,h⟩:=bind_some h;obtain⟨i,hi,h⟩:=map_some h;subst h;exact AS (IH.e X ct Hi τ a x C hx) (uc hi)
  | Not =>
   simp only[cD,bv,cG,cN,cE,cQ,cK,cL,cO,cF,cH,b5,b6,bw,cP,cC,cB,bx,bz,cA,b9,b7,cM]at h;obtain⟨x,hx,h⟩:=bind_some h;obtain⟨i,hi,h⟩:=map_some h;subst h;exact AN (IH.e X ct Hi τ a x C hx) (gB hi)
  | _=>exact aO h
 | Compare a ops cs pos =>
  obtain⟨t,_,h1,_⟩:=DE IH (Hi:=Hi) C h;exact h1
 | BoolOp op vs pos =>
  simp only[lV,lQ,lL,lU,lI,lR,lT,lO,lN,lJ,lP,lK,lS,lM]at h
  split at h
  ·exact aO h
  ·exact mf (fun e r h=>IH.e X ct Hi τ e r C h) h
 | IfExp c a b pos =>
  simp only[lV,lQ,lL,lU,lI,lR,lT,lO,lN,lJ,lP,lK,lS,lM,cD,bv,cG,cN,cE,cQ,cK,cL,cO,cF,cH,b5,b6,bw,cP,cC,cB,bx,bz,cA,b9,b7,cM]at h;obtain⟨t,ht,h⟩:=bind_some h;refine Ah (IH.c X ct Hi τ c t C ht) ?_;cases t with
  | true=>exact IH.e X ct Hi τ a r C h
  | false=>exact IH.e X ct Hi τ b r C h
 | List es pos =>
  simp only[lV,lQ,lL,lU,lI,lR,lT,lO,lN,lJ,lP,lK,lS,lM,cD,bv,cG,cN,cE,cQ,cK,cL,cO,cF,cH,b5,b6,bw,cP,cC,cB,bx,bz,cA,b9,b7,cM]at h;obtain⟨rs,hrs,h⟩:=bind_some h;obtain⟨w,hw,h⟩:=bind_some h;obtain⟨vs,n'⟩:=w;exact AV (IH.es X ct Hi τ es rs C hrs).1 hw h
 | Tuple es k pos =>
  simp only[lV,lQ,lL,lU,lI,lR,lT,lO,lN,lJ,lP,lK,lS,lM,cD,bv,cG,cN,cE,cQ,cK,cL,cO,cF,cH,b5,b6,bw,cP,cC,cB,bx,bz,cA,b9,b7,cM]at h;obtain⟨rs,hrs,h⟩:=bind_some h;obtain⟨w,hw,h⟩:=bind_some h;obtain⟨vs,n'⟩:=w;exact sR (IH.es X ct Hi τ es rs C hrs).1 hw h
 | Dict ks vs pos =>
  simp only[lV,lQ,lL,lU,lI,lR,lT,lO,lN,lJ,lP,lK,lS,lM]at h
  split at h
  ·simp only[cD,bv,cG,cN,cE,cQ,cK,cL,cO,cF,cH,b5,b6,bw,cP,cC,cB,bx,bz,cA,b9,b7,cM]at h
   cases h;exact xh
  ·rename_i c _ _ v
   split at h
   ·simp only[cD,bv,cG,cN,cE,cQ,cK,cL,cO,cF,cH,b5,b6,bw,cP,cC,cB,bx,bz,cA,b9,b7,cM]at h
    obtain⟨x,hx,h⟩:=bind_some h;obtain⟨w,hw,h⟩:=bind_some h;obtain⟨v',n'⟩:=w;dsimp only at h
    split at h
    ·rename_i hi
     cases h;exact pf fj (fun _ _ _ q=>q) (IH.e X ct Hi τ v x C hx) hw hi
    ·cases h
   ·simp only[cD,bv,cG,cN,cE,cQ,cK,cL,cO,cF,cH,b5,b6,bw,cP,cC,cB,bx,bz,cA,b9,b7,cM]at h
    obtain⟨x,hx,h⟩:=bind_some h;obtain⟨w,hw,h⟩:=bind_some h;obtain⟨v',n'⟩:=w;dsimp only at h
    split at h
    ·rename_i hi
     cases h;exact pf tY (fun _ _ _ q=>q) (IH.e X ct Hi τ v x C hx) hw hi
    ·cases h
   ·exact aO h
  ·exact aO h
 | Subscript a i pos =>
  simp only[lV,lQ,lL,lU,lI,lR,lT,lO,lN,lJ,lP,lK,lS,lM]at h
  split at h
  ·rename_i lo hi st sp
   cases st with
   | none =>
    simp only[cD,bv,cG,cN,cE,cQ,cK,cL,cO,cF,cH,b5,b6,bw,cP,cC,cB,bx,bz,cA,b9,b7,cM]at h;obtain⟨x,hx,h⟩:=bind_some h;obtain⟨l,hl,h⟩:=bind_some h;obtain⟨u,hu,h⟩:=bind_some h;obtain⟨l',hl',h⟩:=bind_some h;obtain⟨u',hu',h⟩:=bind_some h;exact sr (IH.e X ct Hi τ a x C hx) (IH.o X ct Hi τ lo l l' C hl hl') (IH.o X ct Hi τ hi u u' C hu hu') h
   | some st =>
    dsimp only at h
    split at h
    ·simp only[cD,bv,cG,cN,cE,cQ,cK,cL,cO,cF,cH,b5,b6,bw,cP,cC,cB,bx,bz,cA,b9,b7,cM]at h
     obtain⟨x,hx,h⟩:=bind_some h;exact wK (IH.e X ct Hi τ a x C hx) h
    ·exact aO h
  ·rename_i hns
   simp only[cD,bv,cG,cN,cE,cQ,cK,cL,cO,cF,cH,b5,b6,bw,cP,cC,cB,bx,bz,cA,b9,b7,cM]at h;obtain⟨x,hx,h⟩:=bind_some h;obtain⟨y,hy,h⟩:=bind_some h;refine ud C.un ?_ (IH.e X ct Hi τ a x C hx) (IH.e X ct Hi τ i y C hy) h;cases i<;>first|rfl|(exfalso;exact hns _ _ _ _ rfl)
 | Call f es ks cp =>
  simp only[lV,lQ,lL,lU,lI,lR,lT,lO,lN,lJ,lP,lK,lS,lM]at h;cases ks with
  | nil =>
   dsimp only at h;cases f with
   | Name x p=>exact IH.call X ct Hi τ x es p cp r C h
   | Attribute o m ap =>
    dsimp only at h
    split at h
    ·rename_i hl
     exact IH.mth X ct Hi τ o m es ap cp r C hl h
    ·exact aO h
   | _=>exact aO h
  | cons k ks=>exact aO h
 | ListComp elt gs scope pos =>
  obtain⟨tg,iter,ifs,N',src,rfl,h1,h2,h3,h4,h5,h6,h7⟩:=lcE IH (Hi:=Hi) C h;intro O σ H Q R q;exact we (tj C.calm zu h1 h2 h3 h4 h5 (kP h6)) (h7 O σ H Q R q)
 | _=>(try simp only[lV,lQ,lL,lU,lI,lR,lT,lO,lN,lJ,lP,lK,lS,lM]at h);exact aO h
theorem tstE{n:Nat}(IH:gc cd n){X:Cx}{ct:Ct}{Hi:Hp}{τ:En}{e:Expr}{b:Bool}(C:bQ cd X ct)(h:du cd (jN (n+1) ct e) τ=some b):dh X Hi τ e b:=by
 have plain:∀{e:Expr},du cd (.val (ai n ct e)) τ=some b->(∀whole,isTrue e X.env whole=(do let v<-whole;standAt e.pos;holding [v] (truthy v)))->dh X Hi τ e b:=by
  intro e h hp;simp only[sD,va,sF,sE]at h;obtain⟨x,hx,h⟩:=bind_some h;exact zD (IH.e X ct Hi τ e x C hx) h hp
 cases e with
 | UnaryOp op a p =>
  simp only[B1,Bx,Bz,By]at h;cases op with
  | Not =>
   simp only[sD,va,sF,sE]at h;obtain⟨t,ht,h⟩:=map_some h;subst h;exact AM (IH.c X ct Hi τ a t C ht)
  | _=>exact plain h fun _=>rfl
 | BoolOp op vs p =>
  simp only[B1,Bx,Bz,By]at h;exact(me (fun e b h=>IH.c X ct Hi τ e b C h) h).tc
 | IfExp c a b' p =>
  simp[B1,Bx,Bz,By,sD,va,sF,sE,cD,bv,cG,cN,cE,cQ,cK,cL,cO,cF,cH,b5,b6,bw,cP,cC,cB,bx,bz,cA,b9,b7,cM]at h
 | Compare a ops cs pos =>
  have h:du cd (.val (ai n ct (.Compare a ops cs pos))) τ=some _:=h;simp only[sD,va,sF,sE]at h;obtain⟨x,hx,h⟩:=bind_some h;obtain⟨t,rfl,ht⟩:=IH.cm X ct Hi τ a ops cs pos x C hx;cases h;exact ht
 | _=>(try simp only[B1,Bx,Bz,By]at h);exact plain h fun _=>rfl
theorem fX:∀n:Nat,gc cd n
 | 0=>by
  refine⟨fun X ct Hi τ e r C h=> ?_,fun X ct Hi τ a ops cs pos r C h=> ?_,fun X ct Hi τ es rs C h=> ?_,fun X ct Hi τ e o i C h=> ?_,fun X ct Hi τ e b C h=> ?_,fun X ct Hi τ x es p pos r C h=> ?_,fun X ct Hi τ o m es ap cp r C hl h=> ?_,fun X ct Hi τ tp e tg xs k b C ht h=> ?_⟩
  ·simp[lV,lQ,lL,lU,lI,lR,lT,lO,lN,lJ,lP,lK,lS,lM,cD,bv,cG,cN,cE,cQ,cK,cL,cO,cF,cH,b5,b6,bw,cP,cC,cB,bx,bz,cA,b9,b7,cM]at h
  ·simp[lV,lQ,lL,lU,lI,lR,lT,lO,lN,lJ,lP,lK,lS,lM,cD,bv,cG,cN,cE,cQ,cK,cL,cO,cF,cH,b5,b6,bw,cP,cC,cB,bx,bz,cA,b9,b7,cM]at h
  ·simp[z21,z22,vY,vZ,cD,bv,cG,cN,cE,cQ,cK,cL,cO,cF,cH,b5,b6,bw,cP,cC,cB,bx,bz,cA,b9,b7,cM]at h
  ·simp[z25,z26,z27,z0v,z0w,cD,bv,cG,cN,cE,cQ,cK,cL,cO,cF,cH,b5,b6,bw,cP,cC,cB,bx,bz,cA,b9,b7,cM]at h
  ·simp[B1,Bx,Bz,By,sD,va,sF,sE,cD,bv,cG,cN,cE,cQ,cK,cL,cO,cF,cH,b5,b6,bw,cP,cC,cB,bx,bz,cA,b9,b7,cM]at h
  ·simp[z1h,z1i,cD,bv,cG,cN,cE,cQ,cK,cL,cO,cF,cH,b5,b6,bw,cP,cC,cB,bx,bz,cA,b9,b7,cM]at h
  ·simp[z23,z24,cD,bv,cG,cN,cE,cQ,cK,cL,cO,cF,cH,b5,b6,bw,cP,cC,cB,bx,bz,cA,b9,b7,cM]at h
  ·simp[z2m,z2n,yv,yw,yx,Bo]at h
 | n+1=>by
  have IH:=fX n;refine⟨fun X ct Hi τ e r C h=>expE IH C h,fun X ct Hi τ a ops cs pos r C h=> ?_,fun X ct Hi τ es rs C h=> ?_,fun X ct Hi τ e o i C h hi=> ?_,fun X ct Hi τ e b C h=>tstE IH C h,fun X ct Hi τ x es p pos r C h=>DI IH C h,fun X ct Hi τ o m es ap cp r C hl h=>mthE IH C hl h,fun X ct Hi τ tp e tg xs k b C ht h=>C1 IH C ht h⟩
  ·obtain⟨t,h1,_,h2⟩:=DE IH (Hi:=Hi) C h
   exact⟨t,h1,h2⟩
  ·simp only[z21,z22]at h
   exact pR (fun e r h=>IH.e X ct Hi τ e r C h) h
  ·cases e with
   | none =>
    simp only[z25,z26,z27,z0v,z0w]at h;cases h;cases hi;exact True.intro
   | some e =>
    simp only[z25,z26,z27,z0v,z0w]at h;obtain⟨r,hr,h⟩:=map_some h;subst h;simp only[oK]at hi
    split at hi
    ·rename_i j ej
     cases hi;exact⟨r,IH.e X ct Hi τ e r C hr,ej⟩
    ·cases hi
end
end IR
namespace L2
open PySem PySem.Spec PyProof.Rows
section
variable{X:Cx}{pins:List (Addr×Obj)}{σ:St}{H:Hp}{s:Shared}
theorem tO{xn:Str}{ix:Nat}{xpos apos:Pos}{elt target iter:Expr}{ifs:List Expr}{scope:Scope}{pos:Pos}{N' :List Str}{src:List (Option Nat)}{wi:TI}(hc:X.calm=true)(hi:PI X target iter wi)(hsrc:bA X scope N' src)
  (hkind:scope.kind=.function) (hcell:∀y∈scope.names,y.2=.cell->scope.names.lookup y.1=some .cell) (hnames:∀y∈scope.names,y.2=.local->scope.names.lookup y.1=some .local)
  (hfr:cv X.env.scope scope=true)
  (hs:∀x,foldedSetIterable iter X.env x=pure x) (hN:X.N.Nodup) (hix:X.N[ix]? =some xn) (hxl:Loc X.env.scope xn) (hf:X.fn xn=true\/X.env.scope.names.lookup xn=some .local)
  (hsw:swapsWith (.ListComp elt [⟨target,iter,ifs,0⟩] scope pos) (some (.Name xn xpos)) apos.line X.env=pure true) :
  PS X (.Assign [.Name xn xpos] (.ListComp elt [⟨target,iter,ifs,0⟩] scope pos) apos) (CM (Bp X N' src scope target ifs elt wi) (mY ix)):=by
 intro pins s σ H D0 I h;rw[exec_Assign_Name_used xn xpos _ apos hsw];refine D6 (wpAny_standAt (D6 ?_));show wpAny (model X.prog X.w) X.A (comprehension (.ListComp elt [⟨target,iter,ifs,0⟩] scope pos) scope X.env _ (newList []) false _ (some (assign (.Name xn xpos) X.env)) >>= fun _=>pure ()) _ _ _;refine D6 (aj (Q:=fun _ s' =>SP X pins D0 .next s') ?_ fun _ s9 h9=>ES (ES h9));refine pV (use:=some (assign (.Name xn xpos) X.env)) hc hi hsrc hkind hcell hnames hfr hs I h fun C a' s2 s4 H2 H3 fp cl m I2 f2 below hCle I4 hn qn _=> ?_;have u4:Un (oM X.stack) fp H2 H3 s2.heap s4.heap:=I4.base;have IX:Inv X pins σ H3 s4:=I2.call' (s' :=s4) (ch:=fp) I4.os u4 I4.hok I4.bare fun b hb=>⟨(f2 b hb).2.2.2.1,(f2 b hb).2.1,(f2 b hb).2.2.2.2.1,(f2 b hb).2.2.2.2.2⟩;have hC3:H3 C=none:=I4.free;refine wpAny_assign_Name (jO IX hN hix hxl (v:=.ref a') rfl (fun s5 I5 ⟨a,sb,ha⟩=> ?_) hf);have ane:C≠a:=by
  rcases ha with rfl|ha
  ·exact(below _ I2.lt).symm
  ·obtain⟨v,qc⟩:=I2.cell _ _ ha
   exact(below _ qc.lt).symm
 refine⟨m,?_,fun h' hs' => ?_⟩
 ·obtain⟨ob,es,ep,ho,rr⟩:=hn
  exact⟨ob,es,ep,(sb.2 _ ane).trans ho,rr⟩
 ·refine⟨_,H3,I5.turned (t' :=s5.toks) (it:=C) (fun b o ne e=>(hs'.2 b ne).trans e) hC3 (below _ I2.lt).symm (.inr (Eh I2.sz hCle)) (fun x c e=> ?_) (fun p hp=> ?_),qn⟩
  ·obtain⟨v,qc⟩:=I2.cell x c e
   exact below _ qc.lt
  ·exact below _ (EA (I2.pin p hp).1)
end
end L2
namespace IR
open PySem PySem.Spec PyProof.Rows L2
section
variable{X:Cx}{Hi:Hp}{τ:En}{cd:Nat->List PV->Option PV}{ct:Ct}
noncomputable abbrev WS(X:Cx)(st:Stmt)(D:dJ)(σ:L2.St)(H:Hp):Prop:=∀(pins:List (Addr×Obj))(s:Shared),Inv X pins σ H s->wpAny (model X.prog X.w) X.A (exec st X.env) (SP X pins D) X.xe s
noncomputable abbrev WSs(X:Cx)(st:List Stmt)(D:dJ)(σ:L2.St)(H:Hp):Prop:=∀(pins:List (Addr×Obj))(s:Shared),Inv X pins σ H s->wpAny (model X.prog X.w) X.A (execs st X.env) (SP X pins D) X.xe s
theorem ps_w{st:Stmt}:PS X st (fun D σ H=>WS X st D σ H):=fun pins s σ H D I h=>h pins s I
theorem jT{st:List Stmt}:oz X st (fun D σ H=>WSs X st D σ H):=fun pins s σ H D I h=>h pins s I
theorem ws{st:Stmt}{t:TS}{σ:L2.St}{H:Hp}{D:dJ}(h:PS X st t)(q:t D σ H):WS X st D σ H:=fun pins s I=>h pins s σ H D I q
theorem wss{st:List Stmt}{t:TS}{σ:L2.St}{H:Hp}{D:dJ}(h:oz X st t)(q:t D σ H):WSs X st D σ H:=fun pins s I=>h pins s σ H D I q
variable(X Hi)in
noncomputable def qC(O:List Addr)(H:Hp)(τ' :En)(P:L2.St->Hp->Prop):Prop:=∀(σ' :L2.St)(H' :Hp)(O' :List Addr),ah X.K Hi O' τ' σ' H' ->σ'.length=X.N.length->aC (aM H O) (aM H' O')->P σ' H'
variable(X Hi)in
noncomputable def vR(fl:Fl)(O:List Addr)(H:Hp)(D:dJ):Prop:=match fl with
 | .nx τ' =>qC X Hi O H τ' D.nx
 | .bk τ' =>qC X Hi O H τ' D.bk
 | .ct τ' =>qC X Hi O H τ' D.ct
 | .rt v=>∀u H',aC Hi H' ->Rp X.K Hi true v H' u->D.rt u H'
variable(X Hi τ)in
noncomputable def jJ(st:Stmt)(fl:Fl):Prop:=∀(O:List Addr)(σ:L2.St)(H:Hp)(D:dJ),ah X.K Hi O τ σ H->σ.length=X.N.length->vR X Hi fl O H D->WS X st D σ H
variable(X Hi τ)in
noncomputable def rP(st:List Stmt)(fl:Fl):Prop:=∀(O:List Addr)(σ:L2.St)(H:Hp)(D:dJ),ah X.K Hi O τ σ H->σ.length=X.N.length->vR X Hi fl O H D->WSs X st D σ H
theorem qC.from{O O' :List Addr}{H H' :Hp}{τ' :En}{P:L2.St->Hp->Prop}(h:qC X Hi O H τ' P)(s:aC (aM H O) (aM H' O')):qC X Hi O' H' τ' P:=fun σ2 H2 O2 R hl s2=>h σ2 H2 O2 R hl (s.trans s2)
theorem vR.from{O O' :List Addr}{H H' :Hp}{fl:Fl}{D:dJ}(h:vR X Hi fl O H D)(s:aC (aM H O) (aM H' O')):vR X Hi fl O' H' D:=by
 cases fl with
 | nx τ' =>exact qC.from (show qC X Hi O H τ' D.nx from h) s
 | bk τ' =>exact qC.from (show qC X Hi O H τ' D.bk from h) s
 | ct τ' =>exact qC.from (show qC X Hi O H τ' D.ct from h) s
 | rt v=>exact h
theorem iH(C:bQ cd X ct){x:Str}{i:Nat}(h:loc ct x=some i):X.N[i]? =some x/\L2.Loc X.env.scope x/\uH x=false/\zC ct.S x=true:=by
 unfold loc at h
 split at h
 ·rename_i c
  rw[Du]at c;refine⟨by rw[C.N];exact di h,?_,by simpa using c.2,?_⟩
  ·unfold L2.Loc
   rw[C.S]
   simpa using c.1
  ·unfold zC
   have:=c.1;simp only[Fw]at this ⊢;exact .inl this
 ·cases h
theorem kf{cap:List Nat}{O:List Addr}{σ:L2.St}{H:Hp}(R:ah X.K Hi O τ σ H):∃O',ah X.K Hi O' (bF cap τ) σ H/\aC (aM H O) (aM H O'):=by
 obtain⟨O',R',h⟩:=R.freezes (cap:=cap);exact⟨O',R',pX h⟩
theorem zm{o:Bool}{i:Nat}{r:RV}{τ' :En}{O:List Addr}{σ:L2.St}{H H' :Hp}{u:V}(R:ah X.K Hi O τ σ H)(s:aC H H')(hi:i<σ.length)(ok:aZ X.K Hi O H H' r u)(h:kL o i r τ=some τ') :
  ∃O',ah X.K Hi O' τ' (σ.set i (some u)) H' /\aC (aM H O) (aM H' O'):=by
 unfold kL at h
 split at h
 ·rename_i xs n
  cases h;obtain⟨p,us,rfl,h0,h1,r1⟩:=ok;have hs:aC (aM (del H' p) O) (aM H' (p::O)):=fun b o e=>by
   unfold aM del at e;unfold aM
   split at e
   ·cases e
   ·rename_i nb
    split at e
    ·cases e
    ·rename_i np
     rw[Dz (by simp[np,nb])];exact e
  refine⟨p::O,R.setO hi s h0 h1 (r1.mono hs),fun b o e=> ?_⟩;unfold aM at e ⊢
  split at e
  ·cases e
  ·rename_i nb
   have ne:b≠p:=aG e h0;rw[Dz (by simp[ne,nb])];exact s b o e
 ·rename_i b xs n
  cases h;obtain⟨p,us,o,rfl,h0,h1,ha,r1⟩:=ok;have hs:aC (aM (del H' p) O) (aM H' (p::O)):=fun b o e=>by
   unfold aM del at e;unfold aM
   split at e
   ·cases e
   ·rename_i nb
    split at e
    ·cases e
    ·rename_i np
     rw[Dz (by simp[np,nb])];exact e
  refine⟨p::O,R.setB rfl hi s h0 h1 ha (r1.mono hs),fun b o e=> ?_⟩;unfold aM at e ⊢
  split at e
  ·cases e
  ·rename_i nb
   have ne:b≠p:=aG e h0;rw[Dz (by simp[ne,nb])];exact s b o e
 ·obtain⟨w,hw,h⟩:=map_some h
  obtain⟨v,n⟩:=w;subst h;exact⟨O,(R.ext s).setF hi (ok.keep R s hw),aK s⟩
theorem AQ{e:Expr}{x:Str}{p:Pos}{l:Nat}{env:Env}(h:ub e=false\/env.kindOf x≠some .local):swapsWith e (some (.Name x p)) l env=pure false:=by
 rcases h with h|h
 ·cases e<;>first|rfl|cases h
 ·have hk:(env.kindOf x==some NameKind.local)=false:=by simpa using h
  cases e<;>first|rfl|(show(pure (_&&(env.kindOf x==some NameKind.local)&&_&&_):Sem Bool)=pure false;rw[hk,Bool.and_false,F5,F5])
theorem BV(C:bQ cd X ct)(hfn:X.fn=fun _=>true){n:Nat}{x:Str}{i:Nat}{o:Bool}{cap:List Nat}{e:Expr}{xp pos:Pos}{r:RV}{τ' :En}(hx:loc ct x=some i)(hr:aa cd (ai n ct e) (bF cap τ)=some r)(hp:kL o i r (bF cap τ)=some τ') :
  jJ X Hi τ (.Assign [.Name x xp] e pos) (.nx τ'):=by
 intro O σ H D R hl q;obtain⟨h1,h2,h3,h4⟩:=iH C hx;obtain⟨O1,R1,s1⟩:=kf (cap:=cap) R;have he:=(fX n).e X ct Hi (bF cap τ) e r C hr;have hi:i<σ.length:=by rw[hl];exact(D1.mp h1).1
 have hN:X.N.Nodup:=by rw[C.N];exact C.nd
 have fin:∀u H',aC H H' ->aZ X.K Hi O1 H H' r u->D.nx (σ.set i (some u)) H' :=fun u H' s ok=>by
  obtain⟨O2,R2,s2⟩:=zm R1 s hi ok hp;exact q _ _ O2 R2 (by rw[Ex];exact hl) (s1.trans s2)
 by_cases hc:ub e=false\/X.env.kindOf x≠some .local
 ·refine ws (hX hN h1 h2 ae (AQ hc) (.inl (by rw[hfn]))) ?_
  exact he O1 σ H _ R1 fin
 ·rw[not_or]at hc
  obtain⟨c1,c2⟩:=hc;have c2:X.env.kindOf x=some .local:=Classical.not_not.mp c2;cases e with
  | ListComp elt gs scope lp =>
   cases n with
   | zero=>simp[lV,lQ,lL,lU,lI,lR,lT,lO,lN,lJ,lP,lK,lS,lM,cD,bv,cG,cN,cE,cQ,cK,cL,cO,cF,cH,b5,b6,bw,cP,cC,cB,bx,bz,cA,b9,b7,cM]at hr
   | succ n =>
    obtain⟨tg,iter,ifs,N',src,rfl,g1,g2,g3,g4,g5,g6,g7⟩:=lcE (fX n) (Hi:=Hi) C hr;obtain⟨b,hb⟩:∃b,swapsWith (.ListComp elt [⟨tg,iter,ifs,0⟩] scope lp) (some (.Name x xp)) pos.line X.env=pure b:=⟨_,rfl⟩;cases b with
    | true=>exact ws (tO C.calm zu g1 g2 g3 g4 g5 (kP g6) hN h1 h2 (.inl (by rw[hfn])) hb) (g7 O1 σ H _ R1 fin)
    | false=>exact ws (hX hN h1 h2 ae hb (.inl (by rw[hfn]))) (he O1 σ H _ R1 fin)
  | SetComp a b c d=>exact aO (by cases n<;>exact hr)
  | DictComp a b c d e=>exact aO (by cases n<;>exact hr)
  | _=>exact absurd rfl c1
theorem zh(C:bQ cd X ct){n:Nat}{cap:List Nat}{e:Expr}{pos:Pos}{r:RV}{v:PV}(hr:aa cd (ai n ct e) (bF cap τ)=some r)(hk:r.keep=some (v,true)):jJ X Hi τ (.Return (some e) pos) (.rt v):=by
 intro O σ H D R hl q;obtain⟨O1,R1,s1⟩:=kf (cap:=cap) R;refine ws (hZ ae) ?_;exact(fX n).e X ct Hi _ e r C hr O1 σ H _ R1 fun u H' s ok=>q u H' (R.same.trans s) ((ok.keep R1 s hk).mono aW)
theorem wL{pos:Pos}:jJ X Hi τ (.Return none pos) (.rt .non):=by
 intro O σ H D R hl q;exact ws wV (q _ _ R.same (Rp.non.mpr rfl))
theorem Ao{c:Expr}{a b:List Stmt}{pos:Pos}{t:Bool}{fl:Fl}(hc:dh X Hi τ c t)(h:rP X Hi τ (if t=true then a else b) fl):jJ X Hi τ (.If c a b pos) fl:=by
 intro O σ H D R hl q;refine ws (pM i9 jT jT) ?_;refine hc O σ H _ R fun H1 s1=> ?_;cases t with
 | true=>exact iR ((show rP X Hi τ a fl from h) O σ H1 _ (R.ext s1) hl (q.from (aK s1)))
 | false=>exact kU ((show rP X Hi τ b fl from h) O σ H1 _ (R.ext s1) hl (q.from (aK s1)))
theorem pT(C:bQ cd X ct)(hfn:X.fn=fun _=>true):∀{es:List Expr}{is:List Nat},locs ct es=some is->∃t,DX X es t/\(assignEach es X.env).length=is.length/\(assignEach es X.env).findIdx? (·.1)=none /\
  ∀(O:List Addr)(τ τ' :En)(σ:L2.St)(H:Hp)(n:Bool)(xs:List PV)(us:List V)(Q:L2.St->Hp->Prop),ah X.K Hi O τ σ H->σ.length=X.N.length->aF X.K Hi n xs (aM H O) us->cV n is xs τ=some τ' ->
   (∀σ',ah X.K Hi O τ' σ' H->σ'.length=X.N.length->Q σ' H)->t us σ H Q
 | [],is,h=>by
  cases h;refine⟨_,fE,rfl,rfl,fun O τ τ' σ H n xs us Q R hl r e q=> ?_⟩;cases xs with
  | nil =>
   unfold aF at r;subst r;cases e;exact⟨rfl,q σ R hl⟩
  | cons x xs=>cases e
 | .Name x p::es,is,h=>by
  have h:(loc ct x).bind (fun i=>(locs ct es).map (i::·))=some is:=h;obtain⟨i,hi,h⟩:=bind_some h;obtain⟨js,hj,h⟩:=map_some h;subst h;obtain⟨h1,h2,h3,h4⟩:=iH C hi;obtain⟨t,pt,hlen,hf,k⟩:=pT C hfn hj;refine⟨_,bM (aq (by rw[C.N];exact C.nd) h1 h2 (.inl (by rw[hfn]))) pt rfl,?_,?_,fun O τ τ' σ H n xs us Q R hl r e q=> ?_⟩
  ·show(assignEach es X.env).length+1=_
   rw[hlen];rfl
  ·show List.findIdx? (·.1) ((false,assign (.Name x p) X.env)::assignEach es X.env)=none
   rw[List.findIdx?_cons,hf];rfl
  ·cases xs with
   | nil=>cases e
   | cons y ys =>
    unfold aF at r;obtain⟨u,vs,rfl,a,b⟩:=r;have hi' :i<σ.length:=by rw[hl];exact(D1.mp h1).1
    exact⟨u,vs,rfl,k O _ τ' _ H n ys vs Q (R.setF hi' a.up) (by rw[Ex];exact hl) b e q⟩
 | .BoolOp .. ::_,_,h=>by cases h
 | .NamedExpr .. ::_,_,h=>by cases h
 | .BinOp .. ::_,_,h=>by cases h
 | .UnaryOp .. ::_,_,h=>by cases h
 | .Lambda .. ::_,_,h=>by cases h
 | .IfExp .. ::_,_,h=>by cases h
 | .Dict .. ::_,_,h=>by cases h
 | .Set .. ::_,_,h=>by cases h
 | .ListComp .. ::_,_,h=>by cases h
 | .SetComp .. ::_,_,h=>by cases h
 | .DictComp .. ::_,_,h=>by cases h
 | .GeneratorExp .. ::_,_,h=>by cases h
 | .Await .. ::_,_,h=>by cases h
 | .Yield .. ::_,_,h=>by cases h
 | .YieldFrom .. ::_,_,h=>by cases h
 | .Compare .. ::_,_,h=>by cases h
 | .Call .. ::_,_,h=>by cases h
 | .FormattedValue .. ::_,_,h=>by cases h
 | .JoinedStr .. ::_,_,h=>by cases h
 | .Constant .. ::_,_,h=>by cases h
 | .Attribute .. ::_,_,h=>by cases h
 | .Subscript .. ::_,_,h=>by cases h
 | .Starred .. ::_,_,h=>by cases h
 | .List .. ::_,_,h=>by cases h
 | .Tuple .. ::_,_,h=>by cases h
 | .Slice .. ::_,_,h=>by cases h
theorem B9(C:bQ cd X ct)(hfn:X.fn=fun _=>true){tg:Expr}{is:List Nat}{one:Bool}(h:sV ct tg=some (is,one)):(one=false->∃ts k p,tg=.Tuple ts k p)/\∃g,PG X tg g /\
  ∀(O:List Addr)(τ τ' :En)(σ:L2.St)(H:Hp)(n:Bool)(x:PV)(u:V)(Q:L2.St->Hp->Prop),ah X.K Hi O τ σ H->σ.length=X.N.length->Rp X.K Hi n x (aM H O) u->kI is one n x τ=some τ' ->
   (∀σ',ah X.K Hi O τ' σ' H->σ'.length=X.N.length->Q σ' H)->g u σ H Q:=by
 cases tg with
 | Name x p =>
  obtain⟨i,hi,h⟩:=map_some (show(loc ct x).map (fun i=>([i],true))=some (is,one)from h);cases h;obtain⟨h1,h2,h3,h4⟩:=iH C hi;refine⟨fun z=>(by cases z),_,aq (by rw[C.N];exact C.nd) h1 h2 (.inl (by rw[hfn])),fun O τ τ' σ H n x u Q R hl r e q=> ?_⟩;have e:some (τ.set i (.frz x (n||imm x)))=some τ' :=e;cases e;have hi' :i<σ.length:=by rw[hl];exact(D1.mp h1).1
  exact q _ (R.setF hi' r.up) (by rw[Ex];exact hl)
 | Tuple es k p =>
  obtain⟨js,hj,h⟩:=map_some (show(locs ct es).map (fun is=>(is,false))=some (is,one)from h);cases h;obtain⟨t,pt,hlen,hf,kk⟩:=pT (Hi:=Hi) C hfn hj;refine⟨fun _=>⟨_,_,_,rfl⟩,_,iC C.calm pt hlen hf,fun O τ τ' σ H n x u Q R hl r e q=> ?_⟩;cases x with
  | tup xs =>
   obtain⟨a,us,rfl,l,r2⟩:=Rp.tup.mp r;have e:cV n is xs τ=some τ' :=e;have hz:∀{is:List Nat}{xs:List PV}{τ τ' :En},cV n is xs τ=some τ' ->xs.length=is.length:=by
    intro is
    induction is with
    | nil=>intro xs τ τ' e;cases xs with
     | nil=>rfl
     | cons _ _=>cases e
    | cons i is ih=>intro xs τ τ' e;cases xs with
     | nil=>cases e
     | cons x xs=>rw[ED,ED,ih (show cV n is xs _=some τ' from e)]
   exact⟨a,us,rfl,(aW (O:=O)).tup l,by rw[<- r2.len];exact hz e,kk O τ τ' σ H n xs us Q R hl r2 e q⟩
  | _=>cases e
 | _=>cases h
theorem A0(C:bQ cd X ct)(hfn:X.fn=fun _=>true){tg it:Expr}{is:List Nat}{one:Bool}{cap:List Nat}{n:Nat}{body:List Stmt}{pos:Pos}{xs:List PV}{k:Bool}{bd:En->Option Fl}{fl:Fl}(ht:sV ct tg=some (is,one))
  (hi:nQ cd (sW n ct (!one) it) (bF cap τ)=some (xs,k,false)) (hb:∀τ fl,bd τ=some fl->rP X Hi τ body fl) (h:iW (kI is one k) bd xs (bF cap τ)=some fl):jJ X Hi τ (.For tg it body [] pos) fl:=by
 intro O σ H D R hl q;obtain⟨O1,R1,s1⟩:=kf (cap:=cap) R;obtain⟨htp,g,pg,kg⟩:=B9 (Hi:=Hi) C hfn ht;obtain⟨iz,hset⟩:=(fX n).t X ct Hi (bF cap τ) (!one) it tg xs k false C (fun z=>htp (by simpa using z)) hi;refine ws (fi C.xe C.calm zu pg jT (kP hset)) ?_;refine iz O1 σ H _ R1 fun J H1 sJ En=> ?_;rw[Dz Dy]at En;have s2:aC (aM H O) (aM H1 O1):=s1.trans (aK sJ);refine⟨fun i m σ' G=>m=xs.length-i/\i<=xs.length/\∃(P:List Addr)(υ:IR.En),ah X.K Hi P υ σ' G/\σ'.length=X.N.length/\aC (aM H1 O1) (aM G P)/\iW (kI is one k) bd (xs.drop i) υ=some fl,⟨xs.length,by simp,EY _,O1,_,R1.ext sJ,hl,aC.refl _,h⟩,?_⟩;rintro i m σ' G ⟨rfl,hi',P,υ,RP,hlP,sP,hrun⟩;have okP:yN (aM H1 O1) G P:=⟨RP.lsts,sP⟩
 by_cases hlt:i<xs.length
 ·refine .inr ⟨En.go G P i okP hlt,fun σ2 G2=>∃m',m' <xs.length-i/\(m' =xs.length-(i+1)/\i+1<=xs.length/\∃(P:List Addr)(υ:IR.En),ah X.K Hi P υ σ2 G2/\σ2.length=X.N.length/\aC (aM H1 O1) (aM G2 P)/\iW (kI is one k) bd (xs.drop (i+1)) υ=some fl),
   fun σ2 G2 h=>h,fun u G' y=> ?_⟩
  obtain⟨sG,x,hx,rx⟩:=En.yld G P i u G' okP hlt y;have hd:xs.drop i=x::xs.drop (i+1):=by
   rw[FY hlt];rw[Dw hlt]at hx;rw[EJ hx]
  rw[hd]at hrun;unfold iW at hrun;obtain⟨υ1,h1,hrun⟩:=bind_some hrun;obtain⟨f,hf,hrun⟩:=bind_some hrun;refine kg P υ υ1 σ' G' k x u _ (RP.ext sG) hlP rx h1 fun σ1 R2 hl1=> ?_;have s3:aC (aM H1 O1) (aM G' P):=sP.trans (aK sG);refine hb υ1 f hf P σ1 G' _ R2 hl1 ?_;cases f with
  | nx υ2=>exact fun σ3 G3 P3 R3 hl3 s4=>⟨_,by omega,rfl,hlt,P3,υ2,R3,hl3,s3.trans s4,hrun⟩
  | ct υ2=>exact fun σ3 G3 P3 R3 hl3 s4=>⟨_,by omega,rfl,hlt,P3,υ2,R3,hl3,s3.trans s4,hrun⟩
  | bk υ2 =>
   have hrun:some (Fl.nx υ2)=some fl:=hrun;cases hrun;exact fun σ3 G3 P3 R3 hl3 s4=>q σ3 G3 P3 R3 hl3 (s2.trans (s3.trans s4))
  | rt v =>
   have hrun:some (Fl.rt v)=some fl:=hrun;cases hrun;exact q
 ·have e:i=xs.length:=by omega
  subst e;rw[List.drop_length]at hrun;have hrun:some (Fl.nx υ)=some fl:=hrun;cases hrun;exact .inl ⟨En.stop G P okP,q σ' G P RP hlP (s2.trans sP)⟩
theorem sI(C:bQ cd X ct){c:Expr}{body:List Stmt}{pos:Pos}{ce:En->Option Bool}{bd:En->Option Fl}{fl:Fl}(hc:∀τ b,ce τ=some b->dh X Hi τ c b)(hb:∀τ fl,bd τ=some fl->rP X Hi τ body fl){fu:Nat}(h:vb ce bd fu τ=some fl) :
  jJ X Hi τ (.While c body [] pos) fl:=by
 intro O σ H D R hl q;refine ws (tN C.xe i9 jT) ?_;refine⟨fun m σ' G=>∃(P:List Addr)(υ:IR.En),ah X.K Hi P υ σ' G/\σ'.length=X.N.length/\aC (aM H O) (aM G P)/\vb ce bd m υ=some fl,⟨fu,O,τ,R,hl,aC.refl _,h⟩,?_⟩;rintro m σ' G ⟨P,υ,RP,hlP,sP,hrun⟩;cases m with
 | zero=>cases hrun
 | succ m =>
  unfold vb at hrun;obtain⟨b,hbv,hrun⟩:=bind_some hrun;refine hc υ b hbv P σ' G _ RP fun G1 s1=> ?_;cases b with
  | false =>
   rw[Dz Dy]at hrun ⊢;cases hrun;exact q σ' G1 P (RP.ext s1) hlP (sP.trans (aK s1))
  | true =>
   rw[D3 rfl]at hrun ⊢;obtain⟨f,hf,hrun⟩:=bind_some hrun;refine⟨fun σ2 G2=>∃m',m' <m+1/\∃(P:List Addr)(υ:IR.En),ah X.K Hi P υ σ2 G2/\σ2.length=X.N.length/\aC (aM H O) (aM G2 P)/\vb ce bd m' υ=some fl,fun σ2 G2 h=>h,?_⟩;have s3:aC (aM H O) (aM G1 P):=sP.trans (aK s1);refine hb υ f hf P σ' G1 _ (RP.ext s1) hlP ?_;cases f with
   | nx υ2=>exact fun σ3 G3 P3 R3 hl3 s4=>⟨m,by omega,P3,υ2,R3,hl3,s3.trans s4,hrun⟩
   | ct υ2=>exact fun σ3 G3 P3 R3 hl3 s4=>⟨m,by omega,P3,υ2,R3,hl3,s3.trans s4,hrun⟩
   | bk υ2 =>
    have hrun:some (Fl.nx υ2)=some fl:=hrun;cases hrun;exact fun σ3 G3 P3 R3 hl3 s4=>q σ3 G3 P3 R3 hl3 (s3.trans s4)
   | rt v =>
    have hrun:some (Fl.rt v)=some fl:=hrun;cases hrun;exact q
theorem vt{i:Nat}{xs ys:List PV}{n m:Bool}{O:List Addr}{σ:L2.St}{H:Hp}{l:Addr}{us:List V}{P:L2.St->Hp->Prop}(R:ah X.K Hi O τ σ H)(hl:σ.length=X.N.length)(e:τ[i]? =some (.own xs n))(g:σ[i]? =some (some (.ref l)))(r:aF X.K Hi m ys (aM H O) us)
  (q:qC X Hi O H (τ.set i (.own ys m)) P):P σ (L2.upd H l (.lst us)):=by
 have R2:=R.upd e g r;refine q σ _ O R2 hl fun b o z=> ?_;obtain⟨l',vs,g1,g2,_⟩:=R.owns i xs n e;rw[g]at g1;cases g1;unfold aM at z ⊢
 split at z
 ·cases z
 ·rename_i nb
  have ne:b≠l:=fun c=>nb (c▸g2);rw[Dz nb,aB ne];exact z
theorem BW(C:bQ cd X ct){n:Nat}{x m:Str}{i:Nat}{cap:List Nat}{a:Expr}{xp ap cp pos:Pos}{r:RV}{v:PV}{k j:Bool}{xs:List PV}(hx:loc ct x=some i)(hm:m="append")(hline:(ap.endLine==cp.line)=true)(hs:aS a=false)
  (hr:aa cd (ai n ct a) (bF cap τ)=some r) (hk:r.keep=some (v,k)) (ho:(bF cap τ)[i]? =some (.own xs j)) (hz:xs.length<LN) :
  jJ X Hi τ (.Expr (.Call (.Attribute (.Name x xp) m ap) [a] [] cp) pos) (.nx ((bF cap τ).set i (.own (xs++[v]) (j&&k)))):=by
 intro O σ H D R hl q;subst hm;obtain⟨h1,h2,h3,h4⟩:=iH C hx;obtain⟨O1,R1,s1⟩:=kf (cap:=cap) R;obtain⟨o1,o2,o3⟩:=dC h3;refine ws (pN (yc PySem.F.plainAttrs_list PySem.F.slot_list_append PySem.F.type_list_append ja (n6 h1 (sL C.S h4) o1 o2) (aT ae av (aV hs)) rfl (by rw[aV hs];rfl) hline (aV hs) rfl) rfl) ?_;obtain⟨l,us,g1,g2,g3,g4⟩:=R1.owns i xs j ho;refine⟨_,g1,.inl ⟨rfl,us,bJ.of g3⟩,?_⟩;refine(fX n).e X ct Hi _ a r C hr O1 σ H _ R1 fun u H' s ok=> ?_;have kp:=ok.keep R1 s hk;have hlen:=g4.len;refine⟨l,us,u,rfl,rfl,s _ _ g3,by rw[dS,<-hlen];exact hz,?_⟩;exact vt (R1.ext s) hl ho g1 (low2 (g4.mono (aK s)) (.cons kp .nil)) (qC.from q (s1.trans (aK s)))
theorem vM(C:bQ cd X ct)(hfn:X.fn=fun _=>true){n:Nat}{x:Str}{i:Nat}{op:Operator}{e:Expr}{xp pos:Pos}{r:RV}{v w:Int}{k:Bool}{g:Int->Int->Int}(hx:loc ct x=some i)(hop:PIp X op (ipI g))(hr:aa cd (ai n ct e) τ=some r)(hv:τ[i]? =some (.frz (.int v) k))(hw:r.val=.int w) :
  jJ X Hi τ (.AugAssign (.Name x xp) op e pos) (.nx (τ.set i (.frz (.int (g v w)) true))):=by
 intro O σ H D R hl q;obtain⟨h1,h2,h3,h4⟩:=iH C hx;have hi:i<σ.length:=by rw[hl];exact(D1.mp h1).1
 have hN:X.N.Nodup:=by rw[C.N];exact C.nd
 obtain⟨u,hu,ru⟩:=R.frz i _ _ hv;cases Rp.int.mp ru;refine ws (zr hN h1 h2 ae hop (.inl (by rw[hfn]))) ⟨_,hu,?_⟩;refine(fX n).e X ct Hi _ e r C hr O σ H _ R fun u' H' s ok=>⟨v,w,rfl,ok.int R s hw,?_⟩;exact q _ _ O ((R.ext s).setF hi (Rp.int.mpr rfl)) (by rw[Ex];exact hl) (aK s)
end
section
variable{cd:Nat->List PV->Option PV}{fu:Nat}
structure Do(cd:Nat->List PV->Option PV)(fu:Nat)(n:Nat):Prop where
 s:∀(X:Cx)(ct:Ct)(Hi:Hp)(τ:En)(st:Stmt)(fl:Fl),bQ cd X ct->(X.fn=fun _=>true)->fO cd fu (nY n ct st) τ=some fl->jJ X Hi τ st fl
 ss:∀(X:Cx)(ct:Ct)(Hi:Hp)(τ:En)(st:List Stmt)(fl:Fl),bQ cd X ct->(X.fn=fun _=>true)->bC cd fu (bB n ct st) τ=some fl->rP X Hi τ st fl
theorem ax{τ:En}{r:Fl}(h:fO cd fu .never τ=some r){P:Prop}:P:=by simp[gU,gK,gJ,gN,gP,gI,gL,gS,gR,gW,gQ,gT,gO,gM]at h
theorem stE{n:Nat}(IH:Do cd fu n){X:Cx}{ct:Ct}{Hi:Hp}{τ:En}{st:Stmt}{fl:Fl}(C:bQ cd X ct)(hfn:X.fn=fun _=>true)(h:fO cd fu (nY (n+1) ct st) τ=some fl):jJ X Hi τ st fl:=by
 cases st with
 | Return v pos =>
  simp only[sA,rY,rq,re,rf,rX,rZ,ri,rh,rg,rj]at h;cases v with
  | none =>
   simp only[gU,gK,gJ,gN,gP,gI,gL,gS,gR,gW,gQ,gT,gO,gM]at h;cases h;exact wL
  | some e =>
   simp only[gU,gK,gJ,gN,gP,gI,gL,gS,gR,gW,gQ,gT,gO,gM]at h;obtain⟨r,hr,h⟩:=bind_some h;obtain⟨w,hk,h⟩:=bind_some h;obtain⟨v,m⟩:=w;dsimp only at h
   split at h
   ·rename_i hm
    cases h;subst hm;exact zh C hr hk
   ·cases h
 | Assign ts e pos =>
  simp only[sA,rY,rq,re,rf,rX,rZ,ri,rh,rg,rj]at h
  split at h
  ·rename_i x xp
   cases hx:loc ct x with
   | none=>rw[hx]at h;exact ax h
   | some i =>
    rw[hx]at h;dsimp only at h;simp only[gU,gK,gJ,gN,gP,gI,gL,gS,gR,gW,gQ,gT,gO,gM]at h;obtain⟨r,hr,h⟩:=bind_some h;obtain⟨τ',hp',h⟩:=map_some h;subst h;exact BV C hfn hx hr hp'
  ·exact ax h
 | If c a b pos =>
  simp only[sA,rY,rq,re,rf,rX,rZ,ri,rh,rg,rj,gU,gK,gJ,gN,gP,gI,gL,gS,gR,gW,gQ,gT,gO,gM]at h;obtain⟨t,ht,h⟩:=bind_some h;refine Ao ((fX n).c X ct Hi τ c t C ht) ?_;cases t with
  | true=>exact IH.ss X ct Hi τ a fl C hfn h
  | false=>exact IH.ss X ct Hi τ b fl C hfn h
 | For tg it body els pos =>
  simp only[sA,rY,rq,re,rf,rX,rZ,ri,rh,rg,rj]at h;cases els with
  | cons _ _=>exact ax h
  | nil =>
   dsimp only at h;cases ht:sV ct tg with
   | none=>rw[ht]at h;exact ax h
   | some w =>
    obtain⟨is,one⟩:=w;rw[ht]at h;simp only[gU,gK,gJ,gN,gP,gI,gL,gS,gR,gW,gQ,gT,gO,gM]at h;obtain⟨w,hw,h⟩:=bind_some h;obtain⟨xs,k,b⟩:=w;dsimp only at h;cases b with
    | true=>cases h
    | false=>exact A0 C hfn ht hw (fun τ fl h=>IH.ss X ct Hi τ body fl C hfn h) h
 | While c body els pos =>
  simp only[sA,rY,rq,re,rf,rX,rZ,ri,rh,rg,rj]at h;cases els with
  | cons _ _=>exact ax h
  | nil =>
   simp only[gU,gK,gJ,gN,gP,gI,gL,gS,gR,gW,gQ,gT,gO,gM]at h;exact sI C (fun τ b h=>(fX n).c X ct Hi τ c b C h) (fun τ fl h=>IH.ss X ct Hi τ body fl C hfn h) h
 | Pass pos =>
  simp only[sA,rY,rq,re,rf,rX,rZ,ri,rh,rg,rj,gU,gK,gJ,gN,gP,gI,gL,gS,gR,gW,gQ,gT,gO,gM]at h;cases h;exact fun O σ H D R hl q=>ws wW (q σ H O R hl (aC.refl _))
 | Break pos =>
  simp only[sA,rY,rq,re,rf,rX,rZ,ri,rh,rg,rj,gU,gK,gJ,gN,gP,gI,gL,gS,gR,gW,gQ,gT,gO,gM]at h;cases h;exact fun O σ H D R hl q=>ws tP (q σ H O R hl (aC.refl _))
 | Continue pos =>
  simp only[sA,rY,rq,re,rf,rX,rZ,ri,rh,rg,rj,gU,gK,gJ,gN,gP,gI,gL,gS,gR,gW,gQ,gT,gO,gM]at h;cases h;exact fun O σ H D R hl q=>ws mB (q σ H O R hl (aC.refl _))
 | Expr e pos =>
  simp only[sA,rY,rq,re,rf,rX,rZ,ri,rh,rg,rj]at h
  split at h
  ·rename_i x xp m ap es cp
   split at h
   ·rename_i hline
    cases hx:loc ct x with
    | none=>rw[hx]at h;exact ax h
    | some i =>
     rw[hx]at h;dsimp only at h
     split at h
     ·rename_i a
      split at h
      ·exact ax h
      ·rename_i hs
       split at h
       ·rename_i hm
        simp only[gU,gK,gJ,gN,gP,gI,gL,gS,gR,gW,gQ,gT,gO,gM]at h;obtain⟨r,hr,h⟩:=bind_some h;obtain⟨w,hk,h⟩:=bind_some h;obtain⟨v,k⟩:=w
        split at h
        ·rename_i xs j ho
         split at h
         ·rename_i hz
          cases h;exact BW C hx (EN hm) hline (FU.mpr hs) hr hk ho hz
         ·cases h
        ·cases h
       ·exact ax h
     ·exact ax h
   ·exact ax h
  ·exact ax h
 | AugAssign t op e pos =>
  simp only[sA,rY,rq,re,rf,rX,rZ,ri,rh,rg,rj]at h
  split at h
  ·rename_i x xp
   cases hx:loc ct x with
   | none=>rw[hx]at h;exact ax h
   | some i =>
    rw[hx]at h;simp only[gU,gK,gJ,gN,gP,gI,gL,gS,gR,gW,gQ,gT,gO,gM]at h;obtain⟨r,hr,h⟩:=bind_some h
    split at h
    ·rename_i hv hw
     cases h;exact vM C hfn hx Ak hr (by assumption) (by assumption)
    ·rename_i hv hw
     cases h;exact vM C hfn hx Aj hr (by assumption) (by assumption)
    ·cases h
  ·exact ax h
 | _=>(try simp only[sA,rY,rq,re,rf,rX,rZ,ri,rh,rg,rj]at h);exact ax h
theorem DU:∀n:Nat,Do cd fu n
 | 0=>by
  refine⟨fun X ct Hi τ st fl C hfn h=> ?_,fun X ct Hi τ st fl C hfn h=> ?_⟩
  ·simp[sA,rY,rq,re,rf,rX,rZ,ri,rh,rg,rj,gU,gK,gJ,gN,gP,gI,gL,gS,gR,gW,gQ,gT,gO,gM]at h
  ·simp[z28,z2a,z29,vW,vX,gU,gK,gJ,gN,gP,gI,gL,gS,gR,gW,gQ,gT,gO,gM]at h
 | n+1=>by
  have IH:=DU n;refine⟨fun X ct Hi τ st fl C hfn h=>stE IH C hfn h,fun X ct Hi τ st fl C hfn h=> ?_⟩;cases st with
  | nil =>
   simp only[z28,z2a,z29,vW,vX]at h;cases h;exact fun O σ H D R hl q=>wss gm (q σ H O R hl (aC.refl _))
  | cons st ss =>
   simp only[z28,z2a,z29]at h;simp only[vW,vX]at h;obtain⟨f,hf,h⟩:=bind_some h;have h1:=IH.s X ct Hi τ st f C hfn hf;intro O σ H D R hl q;refine wss (bL ps_w jT) ?_;refine h1 O σ H _ R hl ?_;cases f with
   | nx τ1=>exact fun σ1 H1 O1 R1 hl1 s1=>IH.ss X ct Hi τ1 ss fl C hfn h O1 σ1 H1 D R1 hl1 (q.from s1)
   | bk τ1 =>
    have h:some (Fl.bk τ1)=some fl:=h;cases h;exact q
   | ct τ1 =>
    have h:some (Fl.ct τ1)=some fl:=h;cases h;exact q
   | rt v =>
    have h:some (Fl.rt v)=some fl:=h;cases h;exact q
end
structure rT(K:W.Frag)(mg:Str->Option Value)(P:Nat->Option FD)(F:List (Str×Nat))(G:List (Str×PV))(B:List Str)(x:Str)(f:Nat)(a:Addr)(fd:FuncData)(ps:List Str):Prop where
 ex:(mg x=some (.ref a)/\W.keepIn K (.ref a)=true/\Binds K fd ps []/\∀(p:Program)(w:World)(base:Heap)(k:Nat),(∀y g,F.lookup y=some g->∃b gd qs,mg y=some (.ref b)/\W.keepIn K (.ref b)=true/\Binds K gd qs []/\bP p w K mg base jK k b gd qs (ve K (aI P k g)))->bP p w K mg base jK (k+1) a fd ps (ve K (aI P (k+1) f)))\/∃st N M n body,Bl K mg x st ps a fd/\aY N ps (aA st)/\P f=some ⟨N.length,ps.length,body⟩/\bB n ⟨N,(aA st).names,F,G,B,M⟩ (aE st)=body
theorem rT.def{K:W.Frag}{mg:Str->Option Value}{P:Nat->Option FD}{F:List (Str×Nat)}{G:List (Str×PV)}{B:List Str}{x:Str}{f:Nat}{a:Addr}{fd:FuncData}{ps:List Str}(d:rT K mg P F G B x f a fd ps):mg x=some (.ref a)/\W.keepIn K (.ref a)=true/\Binds K fd ps []:=by
 rcases d.ex with⟨h1,h2,h3,_⟩|⟨st,N,M,n,body,D,_⟩
 ·exact⟨h1,h2,h3⟩
 ·exact⟨D.nm,D.fn.kp,D.bd⟩
theorem qz{K:W.Frag}{H:Hp}{d:FD}{N:List Str}{pvs:List PV}{vs:List V}(hn:d.nn=N.length)(r:aF K H false pvs H vs):ah K H [] (entry d pvs) (start N vs) H:=by
 have hl:=r.len;have at_:∀(i:Nat)(t:TV),(entry d pvs)[i]? =some t->t=.un\/∃v u,t=.frz v (imm v)/\(start N vs)[i]? =some (some u)/\Rp K H false v H u:=fun i t e=>by
  unfold entry at e
  by_cases hi:i<pvs.length
  ·rw[Eo (by simpa using hi),D7]at e
   have hv:pvs[i]? =some pvs[i]:=by simp
   rw[hv]at e;cases e;obtain⟨u,hu,ru⟩:=r.at hv;refine .inr ⟨_,u,rfl,?_,ru⟩;unfold L2.start;rw[Eo (by rw[Dp];omega),D7,hu];rfl
  ·rw[FW (by simpa using hi),List.getElem?_replicate]at e
   split at e
   ·cases e
    exact .inl rfl
   ·cases e
 refine⟨aC.refl _,fun l hl=>(by cases hl),fun i v n e=> ?_,fun i t b xs n e ht=> ?_,fun i j t t' x y l e1 ht e2 ht' h1 h2=> ?_⟩
 ·rcases at_ i _ e with z|⟨v',u,z,h1,h2⟩
  ·cases z
  ·cases z
   refine⟨u,h1,?_⟩;rw[xS];cases him:imm v with
   | true=>exact Rp.imm him ⟨fun _ _ e=>e,fun _ _ _ e=>e⟩ h2
   | false=>exact h2
 ·rcases at_ i _ e with z|⟨v',u,z,h1,h2⟩<;>(subst z;cases ht)
 ·rcases at_ i _ e1 with z|⟨v',u,z,h1,h2⟩<;>(subst z;cases ht)
theorem oN{p:Program}{w:World}{K:W.Frag}{mg:Str->Option Value}{base:Heap}{P:Nat->Option FD}{F:List (Str×Nat)}{G:List (Str×PV)}{B:List Str}
  (hG:∀x v,G.lookup x=some v->∃u w,mg x=some u/\RelV w u/\∀Hi n H,Rp K Hi n v H w) (hB:∀x,B.contains x=true->mg x=none) (hF:∀x f,F.lookup x=some f->∃a fd ps,rT K mg P F G B x f a fd ps) :
  ∀(k:Nat)(x:Str)(f:Nat)(a:Addr)(fd:FuncData)(ps:List Str),rT K mg P F G B x f a fd ps->bP p w K mg base jK k a fd ps (ve K (aI P k f))
 | 0,x,f,a,fd,ps,_=>⟨fun vs H Q E h=>(by obtain⟨_,_,_,z,_⟩:=h;cases z),fun A outer s H args us vs Q E _ _ _ _ h=>(by obtain⟨_,_,_,z,_⟩:=h;cases z)⟩
 | k+1,x,f,a,fd,ps,d=>by
  rcases d.ex with⟨_,_,_,hand⟩|⟨st,N,M,n,body,D,S,hP,hbody⟩
  ·exact hand p w base k fun y g hy=>by
    obtain⟨b,gd,qs,dy⟩:=hF y g hy;obtain⟨z1,z2,z3⟩:=dy.def;exact⟨b,gd,qs,z1,z2,z3,oN hG hB hF k y g b gd qs dy⟩
  have run:∀{pvs:List PV}{r:PV},aI P (k+1) f pvs=some r->pvs.length=ps.length/\dG (bC (aI P k) 1000000 body (entry ⟨N.length,ps.length,body⟩ pvs))=some r:=fun{pvs r} h=>by
   unfold aI at h;rw[hP]at h;dsimp only[Option.bind]at h
   split at h
   ·rename_i hl
    exact⟨hl,h⟩
   ·cases h
  refine D.fn.ok S (fun vs H Q E h=> ?_) (fun cdv A outer s H vs Q E hr h=> ?_)
  ·obtain⟨pvs,r,h1,h2,_⟩:=h
   rw[<- h1.len];exact(run h2).1
  ·obtain⟨pvs,r,h1,h2,q⟩:=h
   obtain⟨hl,h2⟩:=run h2;have hps:ps.length<=N.length:=by have:=Ek List.length S.pre;rw[FN]at this;omega
   cases he:bC (aI P k) 1000000 body (entry ⟨N.length,ps.length,body⟩ pvs)with
   | none=>rw[he]at h2;cases h2
   | some fl =>
    rw[he]at h2
    have C:bQ (aI P k) (oT jK p w K mg base N x (aA st) a cdv A outer s H E).nox ⟨N,(aA st).names,F,G,B,M⟩ :=
     ⟨rfl,S.nd,rfl,S.kind,rfl,hG,hB,fun y g hy=>by
      obtain⟨a',fd',ps',d'⟩:=hF y g hy;obtain⟨z1,z2,z3⟩:=d'.def;exact⟨k,a',fd',ps',oN hG hB hF k y g a' fd' ps' d',hr,z1,z2,z3⟩,FM,hr.units⟩
    rw[<- hbody]at he;have h3:=(DU n).ss _ _ H _ (aE st) fl C rfl he;refine⟨_,jT,h3 [] (start N vs) H _ (qz rfl h1) ?_ ?_⟩
    ·show(start N vs).length=N.length
     unfold L2.start;rw[EC,Dp,List.length_replicate];have:=h1.len;omega
    ·cases fl with
     | nx τ' =>
      cases h2;exact fun σ' H' O' R' _ _=>q _ _ R'.same (Rp.non.mpr rfl)
     | rt v =>
      cases h2;exact q
     | bk τ' =>cases h2
     | ct τ' =>cases h2
theorem AY{p:Program}{w:World}{K:W.Frag}{mg:Str->Option Value}{base:Heap}{P:Nat->Option FD}{k f:Nat}{a:Addr}{fd:FuncData}{ps:List Str}(F:bP p w K mg base jK k a fd ps (ve K (aI P k f)))
  (h:∀ns:List Int,ns.length<=63->aI P k f [.lst (ns.map PV.int)]=some (.bl true)):bP p w K mg base jK k a fd ps (pH K) :=
 F.imp fun vs H Q E z=>by
  obtain⟨l,ns,rfl,hS,h63,q⟩:=z;refine⟨[.lst (ns.map PV.int)],.bl true,.cons (Rp.lst.mpr ⟨l,_,rfl,(fun z=>by cases z),hS,aF.ints.mpr rfl⟩) .nil,h ns h63,fun u H' s r=> ?_⟩;rw[Rp.bl.mp r];exact q H'
theorem qD{P:Nat->Option FD}{f n m:Nat}(h:P f=some ⟨n,m,.cons .never .nil⟩):∀(k:Nat)(vs:List PV),aI P k f vs=none
 | 0,_=>rfl
 | k+1,vs=>by
  unfold aI;rw[h,Ei]
  split
  ·simp[vW,vX,gU,gK,gJ,gN,gP,gI,gL,gS,gR,gW,gQ,gT,gO,gM,dG]
  ·rfl
theorem vk{K:W.Frag}{mg:Str->Option Value}{P:Nat->Option FD}{f:Nat}{a:Addr}{fd:FuncData}{ps:List Str}{A:Program->World->Heap->Nat->Prop}(h:∀(k:Nat) (vs:List PV),aI P k f vs=none)(p:Program)(w:World)(base:Heap)(k:Nat)(_:A p w base k):bP p w K mg base jK (k+1) a fd ps (ve K (aI P (k+1) f)) :=
 ⟨fun vs H Q E z=>(by obtain⟨_,_,_,z,_⟩:=z;rw[h]at z;cases z),fun A outer s H args us vs Q E _ _ _ _ z=>(by obtain⟨_,_,_,z,_⟩:=z;rw[h]at z;cases z)⟩
section
variable{K:W.Frag}{mg:Str->Option Value}{P:Nat->Option FD}{F0:List (Str×Nat)}{G0:List (Str×PV)}{B0:List Str}
theorem fnil:∀(x:Str)(f:Nat),([]:List (Str×Nat)).lookup x=some f->∃a fd ps,rT K mg P F0 G0 B0 x f a fd ps:=fun x f h=>by cases h
theorem bN{x0:Str}{f0:Nat}{r:List (Str×Nat)}(h:∃a fd ps,rT K mg P F0 G0 B0 x0 f0 a fd ps)(hr:∀(x:Str) (f:Nat),r.lookup x=some f->∃a fd ps,rT K mg P F0 G0 B0 x f a fd ps) :
  ∀(x:Str)(f:Nat),((x0,f0)::r).lookup x=some f->∃a fd ps,rT K mg P F0 G0 B0 x f a fd ps:=fun x f e=>by
 rw[Ea]at e
 split at e
 ·rename_i c
  cases e;rw[EN c];exact h
 ·exact hr x f e
theorem gnil:∀(x:Str)(v:PV),([]:List (Str×PV)).lookup x=some v->∃u w,mg x=some u/\RelV w u/\∀Hi n H,Rp K Hi n v H w:=fun x f h=>by cases h
theorem C6{x0:Str}{v0:PV}{r:List (Str×PV)}(h:∃u w,mg x0=some u/\RelV w u/\∀Hi n H,Rp K Hi n v0 H w)(hr:∀(x:Str) (v:PV),r.lookup x=some v->∃u w,mg x=some u/\RelV w u/\∀Hi n H,Rp K Hi n v H w) :
  ∀(x:Str)(v:PV),((x0,v0)::r).lookup x=some v->∃u w,mg x=some u/\RelV w u/\∀Hi n H,Rp K Hi n v H w:=fun x f e=>by
 rw[Ea]at e
 split at e
 ·rename_i c
  cases e;rw[EN c];exact h
 ·exact hr x f e
theorem bnil:∀(x:Str),([]:List Str).contains x=true->mg x=none:=fun x h=>by simp at h
theorem fW{x0:Str}{r:List Str}(h:mg x0=none)(hr:∀(x:Str),r.contains x=true->mg x=none):∀(x:Str),(x0::r).contains x=true->mg x=none:=fun x e=>by
 rw[Ff,Fw]at e
 rcases e with e|e
 ·rw[EN e]
  exact h
 ·exact hr x e
end
theorem iL{α:Type}{us:List α}(h:us.length=1):∃a,us=[a]:=by
 cases us with
 | nil=>cases h
 | cons a us=>cases us with
  | nil=>exact⟨a,rfl⟩
  | cons b us=>cases h
theorem kT{α:Type}{us:List α}(h:us.length=2):∃a b,us=[a,b]:=by
 cases us with
 | nil=>cases h
 | cons a us=>obtain⟨b,rfl⟩:=iL (Nat.succ.inj h);exact⟨a,b,rfl⟩
theorem C0{α:Type}{us:List α}(h:us.length=3):∃a b c,us=[a,b,c]:=by
 cases us with
 | nil=>cases h
 | cons a us=>obtain⟨b,c,rfl⟩:=kT (Nat.succ.inj h);exact⟨a,b,c,rfl⟩
theorem len4{α:Type}{us:List α}(h:us.length=4):∃a b c d,us=[a,b,c,d]:=by
 cases us with
 | nil=>cases h
 | cons a us=>obtain⟨b,c,d,rfl⟩:=C0 (Nat.succ.inj h);exact⟨a,b,c,d,rfl⟩
theorem md{set:PV->En->Option En}{body:En->Option Fl}(I:Nat->En->Prop)(R:Fl->Prop):∀(xs ys:List PV)(τ:En),I xs.length τ ->
  (∀(i:Nat)(x:PV)(τ:En),(xs++ys)[i]? =some x->xs.length<=i->I i τ->∃τ1 f,set x τ=some τ1/\body τ1=some f/\(match f with| .nx τ2=>I (i+1) τ2| .ct τ2=>I (i+1) τ2| .bk τ2=>R (.nx τ2)| .rt v=>R (.rt v))) ->
  (∀τ,I (xs++ys).length τ->R (.nx τ))->∃fl,iW set body ys τ=some fl/\R fl
 | xs,[],τ,h0,hs,he=>⟨.nx τ,rfl,he τ (by rw[Ey];exact h0)⟩
 | xs,y::ys,τ,h0,hs,he=>by
  obtain⟨τ1,f,h1,h2,h3⟩:=hs xs.length y τ (by simp) (Dx _) h0;have e:xs++y::ys=(xs++[y])++ys:=by simp
  have ih:=fun τ2 (h:I (xs.length+1) τ2)=>md (set:=set) (body:=body) I R (xs++[y]) ys τ2 (by rw[EC];exact h) (fun i x τ hx hi=>hs i x τ (by rw[e];exact hx) (by rw[EC]at hi;omega)) (by rw[<- e];exact he);unfold iW;rw[h1];dsimp only[Option.bind];rw[h2];cases f with
  | nx τ2=>exact ih τ2 h3
  | ct τ2=>exact ih τ2 h3
  | bk τ2=>exact⟨_,rfl,h3⟩
  | rt v=>exact⟨_,rfl,h3⟩
theorem xY{set:PV->En->Option En}{body:En->Option Fl}{xs:List PV}{τ:En}(I:Nat->En->Prop)(R:Fl->Prop)(h0:I 0 τ)
  (hs:∀(i:Nat)(x:PV)(τ:En),xs[i]? =some x->I i τ->∃τ1 f,set x τ=some τ1/\body τ1=some f/\(match f with| .nx τ2=>I (i+1) τ2| .ct τ2=>I (i+1) τ2| .bk τ2=>R (.nx τ2)| .rt v=>R (.rt v)))
  (he:∀τ,I xs.length τ->R (.nx τ)):∃fl,iW set body xs τ=some fl/\R fl :=
 md I R [] xs τ h0 (fun i x τ hx _ hI=>hs i x τ hx hI) he
theorem cy{f:PV->Option (Option (PV×Bool))}{g:PV->PV}{n:Bool}:∀{xs:List PV},(∀x∈xs,f x=some (some (g x,true)))->bD f xs=some (xs.map g,true)
 | [],_=>rfl
 | x::xs,h=>by
  unfold bD;rw[h x Ds,cy (n:=n) fun y hy=>h y (Dq _ hy)];rfl
section
variable{v:PV}{n m:Bool}{xs ys:List PV}{i j:Int}{z y:Str}{a b:RV}{τ:En}{t:TV}{k:Nat}
theorem bc:(RV.frz v n).val=v:=rfl
theorem vp:(RV.bor v).val=v:=rfl
theorem vo:(RV.own xs n).val=.lst xs:=rfl
theorem uY:(RV.frz v n).keep=some (v,n):=rfl
theorem uX:(RV.own xs n).keep=some (.lst xs,n):=rfl
theorem xN{ks:List ac}:(RV.owd (.dK ks) xs n).keep=some (.dK ks xs,n):=rfl
theorem xJ:fI (.lst xs)=some xs.length:=rfl
theorem xI:fI (.tup xs)=some xs.length:=rfl
theorem len_str:fI (.str z)=if z.length<=LN then some z.length else none:=rfl
theorem xf:dG (some (.rt v))=some v:=rfl
theorem Aw:mW (.frz v n::τ) 0=some (.frz v n):=rfl
theorem Ay:mW (.own xs n::τ) 0=some (.bor (.lst xs)):=rfl
theorem Ax:mW (t::τ) (k+1)=mW τ k:=rfl
theorem mZ:bF [] τ=τ:=rfl
theorem qv{c:List Nat}:bF (k::c) τ=bF c (kh τ k):=rfl
theorem xW:kh (.own xs n::τ) 0=.frz (.lst xs) n::τ:=rfl
theorem xX:kh (.frz v n::τ) 0=.frz v n::τ:=rfl
theorem Az:kh (t::τ) (k+1)=t::kh τ k:=by
 unfold kh;rw[Et];cases τ[k]? with
 | none=>rfl
 | some t=>cases t<;>rfl
theorem yF:eF .Add (.frz (.int i) n) (.frz (.int j) m)=some (sc (.int (i+j))):=rfl
theorem xz:eF .Sub (.frz (.int i) n) (.frz (.int j) m)=some (sc (.int (i-j))):=rfl
theorem yB:eF .Mult (.frz (.int i) n) (.frz (.int j) m)=if(-(2^64)<i/\i<2^64)\/(-(2^64)<j/\j<2^64)then some (sc (.int (i*j)))else if i.natAbs<2^2000/\j.natAbs<2^2000 then some (sc (.int (i*j)))else none:=rfl
theorem yD:eF .FloorDiv (.frz (.int i) n) (.frz (.int j) m)=if 0<j/\j<2^200 then some (sc (.int (i/j)))else none:=rfl
theorem yC:eF .Mod (.frz (.int i) n) (.frz (.int j) m)=if 0<j then some (sc (.int (i%j)))else none:=rfl
theorem yA:eF .LShift (.frz (.int i) n) (.frz (.int j) m)=if 0<=j/\j<=1000000/\i.natAbs<2^64 then some (sc (.int (i*2^j.toNat)))else none:=rfl
theorem yE:eF .Add (.frz (.str z) n) (.frz (.str y) m)=if z.length+y.length<=LN then some (sc (.str (z++y)))else none:=rfl
theorem BK:cS .Lt (.int i) (.int j)=some (decide (i<j)):=rfl
theorem BL:cS .Gt (.int i) (.int j)=some (decide (j<i)):=rfl
theorem BM:cS .GtE (.int i) (.int j)=some (decide (j<=i)):=rfl
theorem xu:cS .Eq (.int i) (.int j)=some (decide (i=j)):=rfl
theorem xt:cS .Eq (.str z) (.str y)=some (decide (z=y)):=rfl
theorem xr:cS .NotEq (.int i) (.int j)=some (!decide (i=j)):=rfl
end
section
variable{cd:Nat->List PV->Option PV}{fu:Nat}{s:IS}{ss:rS}{τ τ1:En}{v:PV}
end
theorem qy{cd:Nat->List PV->Option PV}{fu:Nat}{s:IS}{ss:rS}{τ:En}:bC cd fu (.cons s ss) τ=(fO cd fu s τ).bind fun f=>ee f (bC cd fu ss):=by simp only[vW,vX]
theorem uj{cd:Nat->List PV->Option PV}{fu:Nat}{τ:En}:bC cd fu .nil τ=some (.nx τ):=by simp only[vW,vX]
theorem run{P:Nat->Option FD}{k f:Nat}{d:FD}{vs:List PV}{r:PV}(hP:P f=some d)(hl:vs.length=d.np)(h:dG (bC (aI P k) 1000000 d.body (entry d vs))=some r):aI P (k+1) f vs=some r:=by
 show(P f).bind _=_;rw[hP];show(if vs.length=d.np then _ else _)=_;rw[D3 hl];exact h
section
variable{a b:RV}{t:String}{n m:Bool}{xs ys:List PV}{i j:Int}{bl:Bool}
theorem kD{τ:En}{k:En->Option Fl}:ee (.nx τ) k=k τ:=rfl
theorem v3{v:PV}{k:En->Option Fl}:ee (.rt v) k=some (.rt v):=rfl
theorem sU:lf (.bl bl)=some bl:=rfl
theorem wD{z:Str}:g9 (.frz (.str z) n)=some (signs z,true,false):=rfl
theorem wF:g9 (.frz (.lst xs) n)=some (xs,n,false):=rfl
theorem wC:g9 (.frz (.tup xs) n)=some (xs,n,false):=rfl
theorem wE:g9 (.own xs n)=some (xs,n,false):=rfl
theorem Cj{τ:En}{k:Nat}:kL true k (.own xs n) τ=some (τ.set k (.own xs n)):=rfl
theorem zn{τ:En}{k:Nat}:kL false k (.own xs n) τ=some (τ.set k (.frz (.lst xs) n)):=rfl
theorem zo{τ:En}{k:Nat}{o:Bool}{v:PV}:kL o k (.frz v n) τ=some (τ.set k (.frz v n)):=by cases o<;>rfl
theorem zI:kA (.lst xs)=.own xs true:=rfl
theorem zG:kA (.tup xs)=.frz (.tup xs) true:=rfl
theorem zJ:kA (.int i)=.frz (.int i) true:=rfl
theorem zH{z:Str}:kA (.str z)=.frz (.str z) true:=rfl
theorem BP:lF .len [a]=(fI a.val).map fun n=>sc (.int (n:Nat)):=rfl
theorem yH:lF .int [.frz (.bl bl) n]=some (sc (.int (if bl then 1 else 0))):=rfl
theorem rK:lF .tuple [.own xs n]=some (.frz (.tup xs) n):=rfl
theorem rL:lF .tuple [.frz (.lst xs) n]=some (.frz (.tup xs) n):=rfl
theorem vI:lF .sorted [.own xs n]=d9 xs:=rfl
theorem vJ:lF .sorted [.frz (.lst xs) n]=d9 xs:=rfl
theorem ix_L(k:Int):index (.frz (.lst xs) n) (.frz (.int k) m)=(cf xs k).map fun e=>.frz e (n||imm e):=rfl
theorem ix_T(k:Int):index (.frz (.tup xs) n) (.frz (.int k) m)=(cf xs k).map fun e=>.frz e (n||imm e):=rfl
theorem ix_O(k:Int):index (.own xs n) (.frz (.int k) m)=(cf xs k).map fun e=>.frz e (n||imm e):=rfl
theorem ix_B(k:Int):index (.bor (.lst xs)) (.frz (.int k) m)=(cf xs k).map iK:=rfl
theorem ix_S(k:Int)(z:Str):index (.frz (.str z) n) (.frz (.int k) m)=if z.length<=LN then(cf z.cps.toList k).map fun c=>sc (.str ⟨#[c]⟩)else none:=rfl
end
theorem ic{α:Type}{f:PV->Option (Option (PV×Bool))}{h:α->PV}{g:α->PV}:∀{l:List α},(∀x∈l,f (h x)=some (some (g x,true)))->bD f (l.map h)=some (l.map g,true)
 | [],_=>rfl
 | x::xs,k=>by
  rw[D2];unfold bD;rw[k x Ds,ic fun y hy=>k y (Dq _ hy)];rfl
noncomputable def To(o:Option Fl)(Q:Fl->Prop):Prop:=∃f,o=some f/\Q f
theorem vz{f:Fl}{Q:Fl->Prop}:To (some f) Q↔Q f:=⟨fun⟨g,e,h⟩=>by cases e;exact h,fun h=>⟨f,rfl,h⟩⟩
theorem To.imp{o:Option Fl}{Q Q' :Fl->Prop}(h:To o Q)(k:∀f,Q f->Q' f):To o Q' :=by
 obtain⟨f,e,q⟩:=h;exact⟨f,e,k f q⟩
theorem jQ{P:Nat->Option FD}{k f:Nat}{d:FD}{vs:List PV}{Q:PV->Prop}(hP:P f=some d)(hl:vs.length=d.np)(h:To (bC (aI P k) 1000000 d.body (entry d vs)) fun fl=>∃v,dG (some fl)=some v/\Q v):∃v,aI P (k+1) f vs=some v/\Q v:=by
 obtain⟨fl,e,v,h1,h2⟩:=h;exact⟨v,run hP hl (by rw[e];exact h1),h2⟩
theorem eo{P:Nat->Option FD}{k f:Nat}{d:FD}{vs:List PV}{r:PV}(hP:P f=some d)(hl:vs.length=d.np)(h:To (bC (aI P k) 1000000 d.body (entry d vs)) fun fl=>dG (some fl)=some r):aI P (k+1) f vs=some r:=by
 obtain⟨fl,e,h1⟩:=h;exact run hP hl (by rw[e];exact h1)
section
variable{cd:Nat->List PV->Option PV}{fu:Nat}{τ:En}{cap:List Nat}{e e2:IE}{i j:Nat}{o one:Bool}{is:List Nat}{c:IC}{a b body:rS}{src:IT}
theorem A4:fO cd fu (.asg i o cap e) τ=(aa cd e (bF cap τ)).bind fun r=>(kL o i r (bF cap τ)).map .nx:=by simp only[gU,gK,gJ,gN,gP,gI,gL,gS,gR,gW,gQ,gT,gO,gM]
theorem A1:fO cd fu (.ret cap e) τ=(aa cd e (bF cap τ)).bind fun r=>r.keep.bind fun(v,n)=>if n then some (.rt v)else none:=by simp only[gU,gK,gJ,gN,gP,gI,gL,gS,gR,gW,gQ,gT,gO,gM]
theorem A2:fO cd fu (.ife c a b) τ=(du cd c τ).bind fun r=>if r then bC cd fu a τ else bC cd fu b τ:=by simp only[gU,gK,gJ,gN,gP,gI,gL,gS,gR,gW,gQ,gT,gO,gM]
noncomputable def tJ(i:Nat)(v:PV)(m:Bool)(τ:En):Option Fl:=match τ[i]? with
  | some (.own xs n)=>if xs.length<LN then some (.nx (τ.set i (.own (xs++[v]) (n&&m))))else none
  | _=>none
theorem A5:fO cd fu (.app i cap e) τ=(aa cd e (bF cap τ)).bind fun r=>r.keep.bind fun(v,m)=>tJ i v m (bF cap τ):=by simp only[gU,gK,gJ,gN,gP,gI,gL,gS,gR,gW,gQ,gT,gO,gM];rfl
theorem ci{v:PV}{n m:Bool}{xs:List PV}(h:τ[i]? =some (.own xs n))(hz:xs.length<LN):tJ i v m τ=some (.nx (τ.set i (.own (xs++[v]) (n&&m)))):=by
 unfold tJ;rw[h];exact D3 hz
theorem eC{xs:List PV}{n:Bool}{k:En->Option Fl}{Q:Fl->Prop}(ht:nQ cd src (bF cap τ)=some (xs,n,false))(I:Nat->En->Prop)(h0:I 0 (bF cap τ))
  (hs:∀(i:Nat)(x:PV)(τ:En),xs[i]? =some x->I i τ->∃τ1,kI is one n x τ=some τ1/\To (bC cd fu body τ1) fun f=>match f with| .nx τ2=>I (i+1) τ2| .ct τ2=>I (i+1) τ2| .bk τ2=>To (k τ2) Q| .rt v=>Q (.rt v))
  (hk:∀τ',I xs.length τ' ->To (k τ') Q):To ((fO cd fu (.forr is one cap src body) τ).bind fun f=>ee f k) Q:=by
 obtain⟨fl,e,h⟩:=xY (set:=kI is one n) (body:=fun τ=>bC cd fu body τ) (xs:=xs) (τ:=bF cap τ) I (fun fl=>To (ee fl k) Q) h0 (fun i x τ hx hI=>by
  obtain⟨τ1,h1,f,h2,h3⟩:=hs i x τ hx hI;refine⟨τ1,f,h1,h2,?_⟩;cases f with
  | nx τ2=>exact h3
  | ct τ2=>exact h3
  | bk τ2=>exact h3
  | rt v=>exact⟨_,rfl,h3⟩) hk
 have e2:fO cd fu (.forr is one cap src body) τ=some fl:=by
  simp only[gU,gK,gJ,gN,gP,gI,gL,gS,gR,gW,gQ,gT,gO,gM,ht,Ei];exact e
 rw[e2];exact h
end
theorem bW:∀l:List Str,imms (l.map PV.str)=true
 | []=>rfl
 | x::l=>by rw[D2,imms,bW l];rfl
theorem mS:∀l:List Int,imms (l.map PV.int)=true
 | []=>rfl
 | x::l=>by rw[D2,imms,mS l];rfl
theorem iU(l:List Str):imm (.tup (l.map PV.str))=true:=by rw[imm];exact bW l
theorem yJ{l:List PV}{t:Int}(h0:0<=t)(h1:t<l.length):∃e,cf l t=some e/\e∈l:=by
 have h2:t.toNat<l.length:=by omega
 refine⟨l[t.toNat],?_,Fq h2⟩;have:=bE (xs:=l) (j:=t.toNat) (v:=l[t.toNat]) (by simp);rw[show((t.toNat:Nat):Int)=t by omega]at this;exact this
theorem Am{n:Bool}{i:Int}:oK (some (.frz (.int i) n))=some (some i):=rfl
theorem nj{n:Bool}{xs:List PV}{lo hi:Option Int}:slice (.frz (.lst xs) n) lo hi=some (.own (cut xs lo hi) (n||imms xs)):=rfl
theorem og(P:Nat->Option FD)(k f:Nat)(vs:List PV):aI P (k+1) f vs=(P f).bind fun d=>if vs.length=d.np then dG (bC (aI P k) 1000000 d.body (entry d vs))else none:=rfl
section
variable{cd:Nat->List PV->Option PV}{fu:Nat}{τ:En}{e e2:IE}{i:Nat}
noncomputable def BS(i:Nat)(op:Operator)(y:PV)(τ:En):Option Fl:=match τ[i]?,y,op with
  | some (.frz (.int x) _),.int y,.Add=>some (.nx (τ.set i (.frz (.int (x+y)) true)))
  | some (.frz (.int x) _),.int y,.Sub=>some (.nx (τ.set i (.frz (.int (x-y)) true)))
  | _,_,_=>none
theorem A3{op:Operator}:fO cd fu (.aug i op e) τ=(aa cd e τ).bind fun r=>BS i op r.val τ:=by simp only[gU,gK,gJ,gN,gP,gI,gL,gS,gR,gW,gQ,gT,gO,gM];rfl
theorem yI{x y:Int}{n:Bool}(h:τ[i]? =some (.frz (.int x) n)):BS i .Add (.int y) τ=some (.nx (τ.set i (.frz (.int (x+y)) true))):=by unfold BS;rw[h]
noncomputable def setO(i:Nat)(k v:PV)(m:Bool)(τ:En):Option Fl:=match k,τ[i]? with
  | .int j,some (.own xs n)=>(L2.xQ xs.length j).map fun q=>.nx (τ.set i (.own (xs.set q v) (n&&m)))
  | y,some (.owd (.dK ks) xs n)=>(iP y).bind fun k=>if xs.length<LN then some (.nx (τ.set i (.owd (.dK (Ck ks k)) (putL ks xs k v) (n&&m))))else none
  | _,_=>none
theorem sK{c:En->Option Bool}{body:En->Option Fl}(I:Nat->En->Prop)(R:Fl->Prop)(hs:∀m τ,I m τ->∃b,c τ=some b/\(b=true->0<m/\∃τ2,body τ=some (.nx τ2)/\I (m-1) τ2)/\(b=false->R (.nx τ))) :
  ∀(k m:Nat)(τ:En),m<k->I m τ->∃fl,vb c body k τ=some fl/\R fl
 | 0,m,τ,h,_=>by omega
 | k+1,m,τ,h,h0=>by
  obtain⟨b,hb,h1,h2⟩:=hs m τ h0;unfold vb;rw[hb];cases b with
  | false=>exact⟨_,rfl,h2 rfl⟩
  | true =>
   obtain⟨hm,τ2,e,h3⟩:=h1 rfl;dsimp only[Option.bind];rw[D3 rfl,e];exact sK I R hs k (m-1) τ2 (by omega) h3
theorem B2{c:IC}{body:rS}{k:En->Option Fl}{Q:Fl->Prop}(I:Nat->En->Prop)(m:Nat)(hm:m<fu)(h0:I m τ)
  (hs:∀m τ,I m τ->∃b,du cd c τ=some b/\(b=true->0<m/\To (bC cd fu body τ) fun f=>∃τ2,f=.nx τ2/\I (m-1) τ2)/\(b=false->To (k τ) Q)):To ((fO cd fu (.whil c body) τ).bind fun f=>ee f k) Q:=by
 obtain⟨fl,e,h⟩:=sK (c:=fun τ=>du cd c τ) (body:=fun τ=>bC cd fu body τ) I (fun fl=>To (ee fl k) Q) (fun m τ hI=>by
  obtain⟨b,h1,h2,h3⟩:=hs m τ hI;refine⟨b,h1,fun z=> ?_,h3⟩;obtain⟨hm,f,e,τ2,rfl,h4⟩:=h2 z;exact⟨hm,τ2,e,h4⟩) fu m τ hm h0
 have e2:fO cd fu (.whil c body) τ=some fl:=by simp only[gU,gK,gJ,gN,gP,gI,gL,gS,gR,gW,gQ,gT,gO,gM];exact e
 rw[e2];exact h
end
theorem uO{i:Int}:iK (.int i)=.frz (.int i) true:=rfl
theorem zg{z:Str}{n:Bool}:tD (.frz (.str z) n)=if z.length<=LN then some (sc (.str ⟨z.cps.toList.reverse.toArray⟩))else none:=rfl
theorem xq{xs ys:List PV}:cS .NotEq (.lst xs) (.lst ys)=(if eV 12 (.lst xs)&&eV 12 (.lst ys)then some (lE (.lst xs) (.lst ys))else none).map (!·):=rfl
theorem at_0{α:Type}{x:α}{xs:List α}:L2.cf (x::xs) 0=some x:=by
 have:=bE (xs:=x::xs) (j:=0) (v:=x) (by simp);exact this
theorem at_1{α:Type}{x y:α}{xs:List α}:L2.cf (x::y::xs) 1=some y:=by
 have:=bE (xs:=x::y::xs) (j:=1) (v:=y) (by simp);exact this
theorem dU{n i:Nat}{x:PV}(h:((List.range n).map fun i=>PV.int (0+(i:Nat)))[i]? =some x):i<n/\x=.int (i:Nat):=by
 rw[D7]at h
 by_cases hi:i<n
 ·rw[Ez hi]at h
  refine⟨hi,?_⟩;have:=(EJ h).symm
  simpa using this
 ·rw[Ef (by simpa using hi)]at h
  cases h
theorem gl{n:Nat}:((List.range n).map fun i=>PV.int (0+(i:Nat))).length=n:=by simp
theorem wv(c d:Nat):decide ((⟨#[c]⟩:Str)=⟨#[d]⟩)=decide (c=d):=by
 by_cases h:c=d
 ·subst h;simp
 ·rw[EV h,EV]
  intro e;have:=Ek (fun z:Str=>z.cps.toList) e;simp at this;exact h this
theorem oY(c:Nat):decide ((⟨#[c]⟩:Str)="x")=(c==120):=by
 have:=wv c 120;rw[show(⟨#[120]⟩:Str)="x" from rfl]at this;rw[this];rfl
theorem AW{ks:List ac}{vs:List PV}:fI (.dK ks vs)=some ks.length:=rfl
theorem yG{n:Bool}{ks:List ac}{vs:List PV}:lF .sumv [.frz (.dK ks vs) n]=(aP vs).map fun ns=>sc (.int ns.sum):=rfl
theorem br{α:Type}{f:PV->Option (Option (PV×Bool))}{h:α->PV}{p:α->Bool}{g:α->PV}:∀{l:List α},(∀x∈l,f (h x)=some (if p x then some (g x,true)else none))->bD f (l.map h)=some ((l.filter p).map g,true)
 | [],_=>rfl
 | x::xs,k=>by
  rw[D2];unfold bD;rw[k x Ds,br fun y hy=>k y (Dq _ hy)];cases e:p x
  ·simp[Fs,e]
  ·simp[Fs,e]
theorem int_at{a:List Int}{i:Nat}{y:PV}(h:(a.map PV.int)[i]? =some y):i<a.length/\y=.int (a.getD i 0)/\a.getD i 0∈a:=by
 rw[D7]at h;cases e:a[i]? with
 | none=>rw[e]at h;cases h
 | some x =>
  rw[e]at h;cases h;have hi:=(D1.mp e).1;have e2:a.getD i 0=x:=by rw[Dt,e];rfl
  exact⟨hi,by rw[e2],by rw[e2];exact EE e⟩
theorem AU{a:List Int}{i:Nat}(h:i<a.length):cf (a.map PV.int) (i:Int)=some (.int (a.getD i 0)):=bE (by rw[D7,Dt,Dw h];rfl)
noncomputable abbrev aL:=List (Int×Int)
noncomputable def af(c:aL)(k:Int):Option Int:=(c.find? fun p=>decide (p.1=k)).map (·.2)
noncomputable def be(c:aL)(k v:Int):aL:=if(c.any fun p=>decide (p.1=k))=true then c.map (fun p=>if p.1=k then(p.1,v)else p)else c++[(k,v)]
noncomputable def rO(c:aL)(k n:Int):aL:=be c k ((af c k).getD 0+n)
noncomputable def bH(t n:Int)(c:aL)(b:Int):aL:=if Builtin.bitAnd t b=0 then rO c (Builtin.bitOr t b) n else c
noncomputable def bj(B:List Int)(c:aL)(p:Int×Int):aL:=B.foldl (bH p.1 p.2) c
noncomputable def vc(B:List Int)(c lev:aL):aL:=lev.foldl (bj B) c
noncomputable def wl(Ls:List aL)(B:List Int):Nat->List aL
 | 0=>Ls++[[]]
 | i+1=>(wl Ls B i).set (i+1) (vc B ((wl Ls B i).getD (i+1) []) (Ls.getD i []))
noncomputable def al(c:aL):List (ac×V):=c.map fun p=>(Sum.inl p.1,V.int p.2)
noncomputable def dP(c:aL):PV:=.dK (c.map fun p=>Sum.inl p.1) (c.map fun p=>.int p.2)
noncomputable def lH:List ac->List PV->Option aL
 | [],[]=>some []
 | .inl k::ks,.int v::vs=>(lH ks vs).map ((k,v)::·)
 | _,_=>none
noncomputable def unT:PV->Option aL
 | .dK ks vs=>lH ks vs
 | _=>none
noncomputable def lb:List PV->Option (List aL)
 | []=>some []
 | x::xs=>(unT x).bind fun c=>(lb xs).map (c::·)
noncomputable def bG:List PV->Option PV
 | [.lst ls,.lst bs]=>(lb ls).bind fun Ls=>(aP bs).bind fun B=>if Ls.length<=100/\B.length<=100/\(Ls.all fun c=>decide (c.length<=1000))=true then some (.lst ((wl Ls B Ls.length).map dP))else none
 | _=>none
theorem eM:∀{xs:List PV}{ns:List Int},aP xs=some ns->xs=ns.map PV.int
 | [],ns,h=>by cases h;rfl
 | x::xs,ns,h=>by
  cases x with
  | int c =>
   have h:(aP xs).map (c::·)=some ns:=h;cases e:aP xs with
   | none=>rw[e]at h;cases h
   | some ds =>
    rw[e]at h;cases h;rw[eM e];rfl
  | _=>cases h
theorem bT:∀ns:List Int,aP (ns.map PV.int)=some ns
 | []=>rfl
 | n::ns=>by rw[D2,aP,bT ns];rfl
theorem lG:∀{ks:List ac}{vs:List PV}{c:aL},lH ks vs=some c->ks=c.map (fun p=>Sum.inl p.1)/\vs=c.map (fun p=>.int p.2)
 | [],[],c,h=>by cases h;exact⟨rfl,rfl⟩
 | .inl k::ks,.int v::vs,c,h=>by
  have h:(lH ks vs).map ((k,v)::·)=some c:=h;cases e:lH ks vs with
  | none=>rw[e]at h;cases h
  | some d =>
   rw[e]at h;cases h;obtain⟨h1,h2⟩:=lG e;exact⟨by rw[h1];rfl,by rw[h2];rfl⟩
 | .inr z::ks,vs,c,h=>by cases h
 | [],v::vs,c,h=>by cases h
 | .inl k::ks,[],c,h=>by cases h
 | .inl k::ks,.non::vs,c,h=>by cases h
 | .inl k::ks,.bl _::vs,c,h=>by cases h
 | .inl k::ks,.str _::vs,c,h=>by cases h
 | .inl k::ks,.lst _::vs,c,h=>by cases h
 | .inl k::ks,.tup _::vs,c,h=>by cases h
 | .inl k::ks,.dK _ _::vs,c,h=>by cases h
 | .inl k::ks,.dT _ _::vs,c,h=>by cases h
theorem vv{v:PV}{c:aL}(h:unT v=some c):v=dP c:=by
 cases v with
 | dK ks vs =>
  obtain⟨h1,h2⟩:=lG h;unfold dP;rw[h1,h2]
 | _=>cases h
theorem la:∀{ls:List PV}{Ls:List aL},lb ls=some Ls->ls=Ls.map dP
 | [],Ls,h=>by cases h;rfl
 | x::xs,Ls,h=>by
  simp only[lb]at h;cases e:unT x with
  | none=>rw[e]at h;cases h
  | some c =>
   rw[e]at h;simp only[Option.bind]at h;cases e2:lb xs with
   | none=>rw[e2]at h;cases h
   | some r =>
    rw[e2]at h;cases h;rw[vv e,la e2];rfl
theorem o5:∀c:aL,lH (c.map fun p=>Sum.inl p.1) (c.map fun p=>.int p.2)=some c
 | []=>rfl
 | p::c=>by simp only[D2,lH,o5 c];rfl
theorem pB:∀Ls:List aL,lb (Ls.map dP)=some Ls
 | []=>rfl
 | c::Ls=>by
  simp only[D2,lb,pB Ls];show(lH _ _).bind _=_;rw[o5];rfl
theorem kj(c:aL)(k:Int):dN (al c) (Sum.inl k)=(af c k).map V.int:=by
 unfold dN al af
 induction c with
 | nil=>rfl
 | cons p c ih =>
  rw[D2,Ed,Ed]
  by_cases e:p.1=k
  ·simp[e]
  ·have e' :¬((Sum.inl p.1:ac)=Sum.inl k):=fun z=>e (Sum.inl.inj z)
   simp only[e,e',FP];exact ih
theorem ki(c:aL)(k v:Int):cW (al c) (Sum.inl k) (V.int v)=al (be c k v):=by
 unfold cW be;have e1:((al c).any fun kv=>decide (kv.1=Sum.inl k))=(c.any fun p=>decide (p.1=k)):=by
  unfold al;rw[List.any_map]
  congr 1
  funext p
  simp
 rw[e1]
 split
 ·unfold al
  rw[EU,EU];refine Ep fun p _=> ?_
  by_cases e:p.1=k
  ·simp[e]
  ·simp[e]
 ·unfold al
  rw[EF];rfl
theorem hV(c:aL)(k v:Int):(be c k v).length<=c.length+1:=by
 unfold be
 split
 ·rw[Dp];omega
 ·rw[EC];simp
theorem qK(t n:Int)(c:aL)(b:Int):(bH t n c b).length<=c.length+1:=by
 unfold bH
 split
 ·exact hV _ _ _
 ·omega
theorem fr(t n:Int):∀(B:List Int)(c:aL),(B.foldl (bH t n) c).length<=c.length+B.length
 | [],c=>by simp
 | b::B,c=>by
  rw[List.foldl_cons];have h1:=fr t n B (bH t n c b);have h2:=qK t n c b;rw[ED];omega
theorem jh(B:List Int):∀(lev c:aL),(lev.foldl (bj B) c).length<=c.length+lev.length*B.length
 | [],c=>by simp
 | p::lev,c=>by
  rw[List.foldl_cons];have h1:=jh B lev (bj B c p);have h2:(bj B c p).length<=c.length+B.length:=fr p.1 p.2 B c;rw[ED,Nat.succ_mul];omega
theorem jz(Ls:List aL)(B:List Int):∀i,(wl Ls B i).length=Ls.length+1
 | 0=>by simp[wl]
 | i+1=>by rw[wl,Ex];exact jz Ls B i
theorem pe(c:aL)(us:List V)(h:us=c.map fun p=>V.int p.2):(c.map fun p=>(Sum.inl p.1:ac)).zip us=al c:=by
 subst h;unfold al
 induction c with
 | nil=>rfl
 | cons p c ih=>rw[D2,D2,Fe,ih,D2]
theorem ln{K:W.Frag}{Hi:Hp}{n:Bool}{H:Hp}(c:aL){us:List V}:aF K Hi n (c.map fun p=>PV.int p.2) H us↔us=c.map fun p=>V.int p.2:=by
 have e1:(c.map fun p=>PV.int p.2)=(c.map (·.2)).map PV.int:=by rw[EU];rfl
 have e2:(c.map fun p=>V.int p.2)=(c.map (·.2)).map V.int:=by rw[EU];rfl
 rw[e1,e2];exact aF.ints
theorem zd{K:W.Frag}{Hi:Hp}{n:Bool}{c:aL}{H:Hp}{u:V}(h:Rp K Hi n (dP c) H u):∃p,u=.ref p/\H p=some (.dK (al c)):=by
 unfold dP Rp at h;obtain⟨p,us,rfl,_,hp,hl,r⟩:=h;rw[pe c us ((ln c).mp r)]at hp;exact⟨p,rfl,hp⟩
theorem jR{K:W.Frag}{Hi:Hp}{c:aL}{H:Hp}{p:Addr}(h0:Hi p=none)(h:H p=some (.dK (al c))):Rp K Hi true (dP c) H (.ref p):=by
 unfold dP Rp;refine⟨p,c.map fun p=>V.int p.2,rfl,fun _=>h0,by rw[pe c _ rfl];exact h,by simp,(ln c).mpr rfl⟩
noncomputable def nR(H0:Hp)(A:Addr)(ds:List Addr)(cs:List aL)(H:Hp):Prop :=
 aC H0 H/\H0 A=none/\H A=some (.lst (ds.map V.ref))/\A∉ds/\ds.Nodup/\ds.length=cs.length/\∀(q:Nat)(d:Addr)(c:aL),ds[q]? =some d->cs[q]? =some c->H0 d=none/\H d=some (.dK (al c))
theorem nR.ext{H0:Hp}{A:Addr}{ds:List Addr}{cs:List aL}{H H' :Hp}(h:nR H0 A ds cs H)(s:aC H H'):nR H0 A ds cs H' :=by
 obtain⟨h1,h2,h3,h4,h5,h6,h7⟩:=h;exact⟨h1.trans s,h2,s _ _ h3,h4,h5,h6,fun q d c e1 e2=>⟨(h7 q d c e1 e2).1,s _ _ (h7 q d c e1 e2).2⟩⟩
theorem nR.put{H0:Hp}{A:Addr}{ds:List Addr}{cs:List aL}{H:Hp}{q:Nat}{d:Addr}{c' :aL}(h:nR H0 A ds cs H)(hd:ds[q]? =some d):nR H0 A ds (cs.set q c') (L2.upd H d (.dK (al c'))):=by
 obtain⟨h1,h2,h3,h4,h5,h6,h7⟩:=h;have hq:q<ds.length:=(D1.mp hd).1;have hc:cs[q]? =some (cs[q]'(by omega)):=by simp[show q<cs.length by omega]
 obtain⟨n0,n1⟩:=h7 q d _ hd hc;have hA:A≠d:=fun z=>h4 (z▸EE hd);refine⟨fun b o e=>by rw[aB (aG e n0)];exact h1 b o e,h2,by rw[aB hA];exact h3,h4,h5,by rw[Ex];exact h6,fun q' d' c e1 e2=> ?_⟩;rw[F6]at e2
 by_cases e:q=q'
 ·subst e
  rw[hd]at e1;cases e1;rw[D3 rfl,D3 (by omega)]at e2;cases e2;exact⟨n0,aD⟩
 ·rw[Dz e]at e2
  obtain⟨m0,m1⟩:=h7 q' d' c e1 e2;refine⟨m0,?_⟩;rw[aB fun z=>e ?_]
  ·exact m1
  ·subst z
   have:=(List.getElem?_inj (i:=q') (j:=q) (D1.mp e1).1 h5).mp (by rw[e1,hd]);exact this.symm
theorem nR.at{H0:Hp}{A:Addr}{ds:List Addr}{cs:List aL}{H:Hp}{q:Nat}{d:Addr}{c:aL}(h:nR H0 A ds cs H)(hd:ds[q]? =some d)(hc:cs[q]? =some c):H0 d=none/\H d=some (.dK (al c)):=h.2.2.2.2.2.2 q d c hd hc
theorem nR.push{H0:Hp}{A:Addr}{ds:List Addr}{cs:List aL}{H:Hp}{p:Addr}{c:aL}(h:nR H0 A ds cs H)(hp:H p=none):nR H0 A (ds++[p]) (cs++[c]) (L2.upd (L2.upd H p (.dK (al c))) A (.lst (ds.map V.ref++[.ref p]))):=by
 obtain⟨h1,h2,h3,h4,h5,h6,h7⟩:=h;have hA:A≠p:=fun z=>by rw[z,hp]at h3;cases h3
 have hpd:p∉ds:=fun z=>by
  obtain⟨q,hq,e⟩:=Fu.mp z;obtain⟨_,m1⟩:=h7 q p (cs[q]'(by omega)) (by rw[Dw hq,e]) (by simp[show q<cs.length by omega]);rw[hp]at m1;cases m1
 refine⟨fun b o e=> ?_,h2,?_,?_,?_,by simp[h6],fun q d c' e1 e2=> ?_⟩
 ·rw[aB (aG e h2),aB (aG e (h1.free hp))]
  exact h1 b o e
 ·rw[aD,EF]
  rfl
 ·intro z
  rcases EL.mp z with z|z
  ·exact h4 z
  ·exact hA (by simpa using z)
 ·rw[Er]
  exact⟨h5,by simp,fun a ha b hb e=>by
   have:b=p:=by simpa using hb
   rw[this]at e;exact hpd (e▸ha)⟩
 ·by_cases hq:q<ds.length
  ·rw[Eo hq]at e1
   rw[Eo (by omega)]at e2;obtain⟨m0,m1⟩:=h7 q d c' e1 e2;have d1:d≠A:=fun z=>h4 (z▸EE e1);have d2:d≠p:=fun z=>hpd (z▸EE e1);exact⟨m0,by rw[aB d1,aB d2];exact m1⟩
  ·rw[FW (by omega)]at e1
   rw[FW (by omega)]at e2;have q0:q-ds.length=0:=by
    cases e:q-ds.length with
    | zero=>rfl
    | succ m=>rw[e]at e1;simp at e1
   rw[q0]at e1;rw[show q-cs.length=0 by omega]at e2;have e1' :p=d:=by simpa using e1
   have e2' :c=c' :=by simpa using e2
   subst e1' e2';exact⟨h1.free hp,by rw[aB (Fd hA),aD]⟩
theorem qP{H:Hp}{p a:Addr}{o:HO}{u:HO}(hp:H p=none)(ha:p≠a):aC (L2.upd H a u) (L2.upd (L2.upd H p o) a u):=fun b x e=>by
 by_cases hb:b=a
 ·subst hb
  rw[aD]at e ⊢;exact e
 ·rw[aB hb]at e ⊢
  rw[aB (aG e hp)];exact e
theorem pG{K:W.Frag}{H:Hp}{a b:Addr}{kvs:List (ac×V)}{xs:List V}(h:bJ K (L2.upd H a (.dK kvs)) b xs):bJ K H b xs:=by
 have key:∀u,L2.upd H a (.dK kvs) b=some u->(∀k,u≠.dK k)->H b=some u:=fun u e n=>by
  by_cases hb:b=a
  ·subst hb
   rw[aD]at e;exact absurd (EJ e).symm (n _)
  ·rw[aB hb]at e
   exact e
 rcases h with(h|⟨o,h⟩)|h
 ·exact .inl (.inl (key _ h fun k z=>by cases z))
 ·exact .inl (.inr ⟨o,key _ h fun k z=>by cases z⟩)
 ·exact .inr h
theorem xg{c:aL}{j:Nat}{k:ac}{x:V}(h:(al c)[j]? =some (k,x)):∃t n,c[j]? =some (t,n)/\k=.inl t/\x=.int n:=by
 unfold al at h;rw[D7]at h;cases e:c[j]? with
 | none=>rw[e]at h;cases h
 | some p =>
  rw[e]at h;have:=EJ h;cases this;exact⟨p.1,p.2,rfl,rfl,rfl⟩
theorem mn(c:aL):(al c).length=c.length:=by unfold al;rw[Dp]
theorem yR(Ls:List aL)(B:List Int):∀(i j:Nat),i<j->(wl Ls B i)[j]? =(Ls++[[]])[j]?
 | 0,j,h=>rfl
 | i+1,j,h=>by
  rw[wl,Ec (by omega)];exact yR Ls B i j (by omega)
theorem sM{H:Hp}{a b:Addr}{x y:HO}(h:a≠b):L2.upd (L2.upd H a x) b y=L2.upd (L2.upd H b y) a x:=by
 funext c
 unfold L2.upd
 by_cases h1:c=a
 ·subst h1
  rw[Dz h,D3 rfl,D3 rfl]
 ·by_cases h2:c=b
  ·subst h2
   rw[D3 rfl,Dz h1,D3 rfl]
  ·rw[Dz h2,Dz h1,Dz h1,Dz h2]
theorem lm{K:W.Frag}{Hi:Hp}{H:Hp}:∀{cs:List aL}{ds:List Addr},ds.length=cs.length->(∀(q:Nat)(d:Addr)(c:aL),ds[q]? =some d->cs[q]? =some c->Hi d=none/\H d=some (.dK (al c)))->aF K Hi true (cs.map dP) H (ds.map V.ref)
 | [],[],_,_=>.nil
 | c::cs,d::ds,hl,h=>by
  obtain⟨h0,h1⟩:=h 0 d c rfl rfl;exact .cons (jR h0 h1) (lm (by simpa using hl) fun q d' c' e1 e2=>h (q+1) d' c' (by simpa using e1) (by simpa using e2))
 | [],_::_,hl,_=>by cases hl
 | _::_,[],hl,_=>by cases hl
end IR
namespace IR
open PySem
theorem vL(a b:Nat):Builtin.bitAnd (a:Int) (b:Int)=((a &&& b:Nat):Int):=by
 unfold Builtin.bitAnd;have h1:decide ((0:Int)<=(a:Int))=true:=by simp
 have h2:decide ((0:Int)<=(b:Int))=true:=by simp
 rw[h1,h2];simp
theorem nF(a:Nat):Builtin.bitNot (a:Int)= -(a:Int)-1:=by unfold Builtin.bitNot;omega
theorem py(a b:Nat):Builtin.bitOr (a:Int) (b:Int)=((a ||| b:Nat):Int):=by
 unfold Builtin.bitOr Builtin.bitAnd;rw[nF,nF];have h1:decide ((0:Int)<= -(a:Int)-1)=false:=by simp;omega
 have h2:decide ((0:Int)<= -(b:Int)-1)=false:=by simp;omega
 rw[h1,h2];dsimp only;have e1:(Builtin.bitNot (-(a:Int)-1)).toNat=a:=by unfold Builtin.bitNot;omega
 have e2:(Builtin.bitNot (-(b:Int)-1)).toNat=b:=by unfold Builtin.bitNot;omega
 rw[e1,e2];unfold Builtin.bitNot;omega
theorem dX:∀(n:Nat)(l:List Nat),l.Nodup->(∀x∈l,x<n)->l.length<=n
 | 0,l,_,h=>by
  cases l with
  | nil=>simp
  | cons x l=>exact absurd (h x Ds) (by omega)
 | n+1,l,nd,h=>by
  by_cases hn:n∈l
  ·have h1:=dX n (l.erase n) (nd.erase n) fun x hx=>by
    have:=(nd.mem_erase_iff).mp hx;have:=h x this.2;omega
   rw[List.length_erase_of_mem hn]at h1;omega
  ·have:=dX n l nd fun x hx=>by
    have h2:=h x hx;have:x≠n:=fun z=>hn (z▸hx);omega
   omega
noncomputable def ao(c:aL):Prop:=(c.map (·.1)).Nodup/\∀p∈c,(∃n:Nat,p.1=(n:Int)/\n<256)/\0<p.2
theorem ao.len{c:aL}(h:ao c):c.length<=256:=by
 have nd:((c.map (·.1)).map Int.toNat).Nodup:=by
  rw[List.nodup_iff_pairwise_ne,Fk];refine(List.nodup_iff_pairwise_ne.mp h.1).imp_of_mem fun{a b} ha hb hne e=>hne ?_;obtain⟨p,hp,rfl⟩:=Dv.mp ha;obtain⟨q,hq,rfl⟩:=Dv.mp hb;obtain⟨⟨m,em,_⟩,_⟩:=h.2 p hp;obtain⟨⟨n,en,_⟩,_⟩:=h.2 q hq;rw[em,en]at e ⊢;omega
 have:=dX 256 _ nd fun x hx=>by
  obtain⟨y,hy,rfl⟩:=Dv.mp hx;obtain⟨p,hp,rfl⟩:=Dv.mp hy;obtain⟨⟨m,em,hm⟩,_⟩:=h.2 p hp;rw[em];omega
 simpa using this
noncomputable def bh(φ:Int->Int):aL->Int
 | []=>0
 | p::c=>p.2*φ p.1+bh φ c
theorem o9(φ:Int->Int):∀c d:aL,bh φ (c++d)=bh φ c+bh φ d
 | [],d=>by simp[bh]
 | p::c,d=>by rw[List.cons_append,bh,bh,o9 φ c d];omega
theorem pz{c:aL}{k:Int}:(c.any fun p=>decide (p.1=k))=true↔k∈c.map (·.1):=by
 rw[FO,Dv]
 constructor
 ·rintro⟨p,hp,e⟩
  exact⟨p,hp,Eg e⟩
 ·rintro⟨p,hp,e⟩
  exact⟨p,hp,EX e⟩
theorem wM{c:aL}{k v:Int}(h:k∉c.map (·.1)):c.map (fun p=>if p.1=k then(p.1,v)else p)=c:=by
 induction c with
 | nil=>rfl
 | cons p c ih =>
  rw[D2]at h ⊢;have h1:¬p.1=k:=fun z=>h (by rw[z];exact Ds);rw[Dz h1,ih fun z=>h (Dq _ z)]
theorem pb{c:aL}{k:Int}(h:k∈c.map (·.1)):∃v,af c k=some v/\(k,v)∈c:=by
 unfold af
 induction c with
 | nil=>cases h
 | cons p c ih =>
  rw[Ed]
  by_cases e:p.1=k
  ·refine⟨p.2,by simp[e],?_⟩
   subst e;exact Ds
  ·have h' :k∈c.map (·.1):=by
    rw[D2]at h
    rcases D8.mp h with z|z
    ·exact absurd z.symm e
    ·exact z
   obtain⟨v,hv,hm⟩:=ih h';refine⟨v,?_,Dq _ hm⟩;simp only[e,FP];exact hv
theorem mX{c:aL}{k:Int}(h:k∉c.map (·.1)):af c k=none:=by
 unfold af;rw[List.find?_eq_none.mpr]
 ·rfl
 ·intro p hp e
  exact h (Dv.mpr ⟨p,hp,Eg e⟩)
theorem lW(φ:Int->Int){k v w:Int}:∀{c:aL},(c.map (·.1)).Nodup->af c k=some v->bh φ (c.map (fun p=>if p.1=k then(p.1,w)else p))=bh φ c+(w-v)*φ k
 | [],_,h=>by cases h
 | p::c,nd,h=>by
  rw[D2]at nd ⊢;have nd2:=EO.mp nd
  by_cases e:p.1=k
  ·subst e
   rw[D3 rfl,wM nd2.1];have hv:v=p.2:=by
    unfold af at h;rw[Ed]at h;simp at h;exact h.symm
   subst hv;rw[bh,bh,Int.sub_mul];dsimp only;omega
  ·have h' :af c k=some v:=by
    unfold af at h ⊢;rw[Ed]at h;simp only[e,FP]at h;exact h
   rw[Dz e,bh,bh,lW φ nd2.2 h'];omega
theorem pK{c:aL}{k v:Int}(h:k∈c.map (·.1)):be c k v=c.map (fun p=>if p.1=k then(p.1,v)else p):=by
 unfold be;rw[D3 (pz.mpr h)]
theorem ly{c:aL}{k v:Int}(h:k∉c.map (·.1)):be c k v=c++[(k,v)]:=by
 unfold be;rw[Dz fun z=>h (pz.mp z)]
theorem yM(φ:Int->Int){c:aL}(nd:(c.map (·.1)).Nodup)(k n:Int):bh φ (rO c k n)=bh φ c+n*φ k:=by
 unfold rO
 by_cases h:k∈c.map (·.1)
 ·obtain⟨v,hv,_⟩:=pb h
  rw[pK h,hv,lW φ nd hv]
  congr 2
  simp;omega
 ·rw[ly h,mX h,o9]
  simp[bh]
theorem rN{c:aL}(h:ao c){m:Nat}(hm:m<256){n:Int}(hn:0<n):ao (rO c (m:Int) n):=by
 unfold rO
 by_cases hk:((m:Int))∈c.map (·.1)
 ·obtain⟨v,hv,hmem⟩:=pb hk
  rw[pK hk,hv];have e:(c.map (fun p=>if p.1=(m:Int)then(p.1,(some v).getD 0+n)else p)).map (·.1)=c.map (·.1):=by
   rw[EU];refine Ep fun p _=> ?_;dsimp only[Function.comp]
   split<;>rfl
  refine⟨by rw[e];exact h.1,fun p hp=> ?_⟩;obtain⟨p0,hp0,rfl⟩:=Dv.mp hp;obtain⟨h1,h2⟩:=h.2 p0 hp0
  split
  ·refine⟨h1,?_⟩
   have:=(h.2 _ hmem).2;show 0<v+n;omega
  ·exact⟨h1,h2⟩
 ·rw[ly hk,mX hk]
  refine⟨?_,fun p hp=> ?_⟩
  ·rw[EF,Er]
   refine⟨h.1,by simp,fun a ha b hb e=> ?_⟩;have hb:b=(m:Int):=by simpa using hb
   rw[hb]at e;rw[e]at ha;exact hk ha
  ·rcases EL.mp hp with z|z
   ·exact h.2 p z
   ·have:p=((m:Int),none.getD 0+n):=by simpa using z
    rw[this];exact⟨⟨m,rfl,hm⟩,by show 0<0+n;omega⟩
noncomputable def cT(B:List Int):Prop:=∀b∈B,∃n:Nat,b=((2^n:Nat):Int)/\n<8
theorem Cn{a b:Nat}(ha:a<256)(hb:b<256):a ||| b<256:=Nat.or_lt_two_pow (n:=8) ha hb
theorem gz{c:aL}(h:ao c){t:Nat}(ht:t<256){n:Int}(hn:0<n){j:Nat}(hj:j<8):ao (bH (t:Int) n c ((2^j:Nat):Int)):=by
 unfold bH
 split
 ·rw[py]
  exact rN h (Cn ht (Nat.pow_lt_pow_right (by decide) (show j<8 from hj))) hn
 ·exact h
theorem eN{t:Nat}(ht:t<256){n:Int}(hn:0<n):∀{B:List Int}{c:aL},cT B->ao c->ao (B.foldl (bH (t:Int) n) c)
 | [],c,_,h=>h
 | b::B,c,hB,h=>by
  obtain⟨j,rfl,hj⟩:=hB b Ds;exact eN (B:=B) ht hn (fun b hb=>hB b (Dq _ hb)) (gz h ht hn hj)
theorem lZ{B:List Int}(hB:cT B):∀{lev c:aL},ao lev->ao c->ao (vc B c lev)
 | [],c,_,h=>h
 | p::lev,c,hl,h=>by
  obtain⟨⟨t,et,ht⟩,hp⟩:=hl.2 p Ds;have h1:ao (bj B c p):=by
   unfold bj;rw[et];exact eN ht hp hB h
  exact lZ (lev:=lev) hB ⟨(EO.mp (show(p.1::lev.map (·.1)).Nodup from hl.1)).2,fun q hq=>hl.2 q (Dq _ hq)⟩ h1
theorem fM:ao []:=⟨by simp,fun p hp=>by cases hp⟩
theorem o6{Ls:List aL}{B:List Int}(hB:cT B)(h:∀c∈Ls,ao c):∀i,∀c∈wl Ls B i,ao c
 | 0,c,hc=>by
  rcases EL.mp hc with z|z
  ·exact h c z
  ·have:c=[]:=by simpa using z
   rw[this];exact fM
 | i+1,c,hc=>by
  rw[wl]at hc;have ih:=o6 hB h i
  rcases List.mem_or_eq_of_mem_set hc with z|z
  ·exact ih c z
  ·rw[z]
   refine lZ hB ?_ ?_
   ·rw[Dt]
    cases e:Ls[i]? with
    | none=>exact fM
    | some d=>exact h d (EE e)
   ·rw[Dt]
    cases e:(wl Ls B i)[i+1]? with
    | none=>exact fM
    | some d=>exact ih d (EE e)
noncomputable def bo(Bs:List (List Int)):List aL:=Bs.foldl (fun Ls B=>wl Ls B Ls.length) [[(0,1)]]
theorem fo(Bs:List (List Int))(B:List Int):bo (Bs++[B])=wl (bo Bs) B (bo Bs).length:=by unfold bo;rw[List.foldl_append];rfl
theorem dc{α:Type}{P:List α->Prop}(h0:P [])(hs:∀l x,P l->P (l++[x])):∀l,P l:=by
 intro l;have:∀r:List α,P r.reverse:=by
  intro r
  induction r with
  | nil=>exact h0
  | cons x r ih=>rw[Fj];exact hs _ _ ih
 have:=this l.reverse
 rwa [List.reverse_reverse]at this
theorem dk{Bs:List (List Int)}(h:∀B∈Bs,cT B):(bo Bs).length=Bs.length+1/\∀c∈bo Bs,ao c:=by
 revert h
 refine dc (P:=fun Bs=>(∀B∈Bs,cT B)->(bo Bs).length=Bs.length+1/\∀c∈bo Bs,ao c) ?_ ?_ Bs
 ·intro _
  refine⟨rfl,fun c hc=> ?_⟩;have:c=[(0,1)]:=by simpa [bo]using hc
  rw[this];refine⟨by simp,fun p hp=> ?_⟩;have:p=(0,1):=by simpa using hp
  rw[this];exact⟨⟨0,rfl,by decide⟩,by decide⟩
 ·intro l B ih h
  obtain⟨h1,h2⟩:=ih fun B hB=>h B (EH _ hB);rw[fo];refine⟨by rw[jz,h1,EC];simp,o6 (h B (by simp)) h2 _⟩
noncomputable def fg(c:aL):Int:=(c.map (·.2)).sum
noncomputable def wJ(Ls:List aL):List Int:=(Ls.filter fun c=>decide (0<c.length)).map fg
noncomputable def cU{α:Type}(l:List α)(f:α->Int):Int:=(l.map f).sum
theorem bS{α:Type}(x:α)(l:List α)(f:α->Int):cU (x::l) f=f x+cU l f:=by unfold cU;rw[D2,F9]
theorem dR{α:Type}(f:α->Int):cU ([]:List α) f=0:=rfl
theorem ni{α:Type}{l:List α}{f g:α->Int}(h:∀x∈l,f x=g x):cU l f=cU l g:=by unfold cU;rw[Ep h]
theorem bV{α:Type}{l:List α}{f:α->Int}(h:∀x∈l,0<=f x):0<=cU l f:=by
 induction l with
 | nil=>exact Fh _
 | cons x l ih =>
  rw[bS];have h1:=h x Ds;have h2:=ih fun y hy=>h y (Dq _ hy);omega
noncomputable def cnt:List (List Nat)->List Nat->Nat->Int
 | [],_,0=>1
 | [],_,_+1=>0
 | _::rs,T,0=>cnt rs T 0
 | r::rs,T,k+1=>cnt rs T (k+1)+cU (r.filter fun c=> !T.contains c) fun c=>cnt rs (c::T) k
theorem fS:∀(rs:List (List Nat))(T:List Nat),cnt rs T 0=1
 | [],_=>rfl
 | _::rs,T=>by rw[cnt];exact fS rs T
theorem ag:∀(rs:List (List Nat))(T:List Nat)(k:Nat),0<=cnt rs T k
 | [],_,0=>by rw[cnt];decide
 | [],_,_+1=>by rw[cnt];decide
 | _::rs,T,0=>by rw[cnt];exact ag rs T 0
 | r::rs,T,k+1=>by
  rw[cnt];have h1:=ag rs T (k+1);have h2:0<=cU (r.filter fun c=> !T.contains c) fun c=>cnt rs (c::T) k:=bV fun c _=>ag rs (c::T) k;omega
theorem dv:∀(rs:List (List Nat)){T T' :List Nat}(k:Nat),(∀r∈rs,∀c∈r,T.contains c=T'.contains c)->cnt rs T k=cnt rs T' k
 | [],_,_,0,_=>rfl
 | [],_,_,_+1,_=>rfl
 | _::rs,T,T',0,h=>by rw[cnt,cnt];exact dv rs 0 fun r hr=>h r (Dq _ hr)
 | r::rs,T,T',k+1,h=>by
  rw[cnt,cnt,dv rs (k+1) fun r hr=>h r (Dq _ hr)];have e:(r.filter fun c=> !T.contains c)=r.filter fun c=> !T'.contains c:=List.filter_congr fun c hc=>by rw[h r Ds c hc]
  rw[e];refine Ek (_+·) (ni fun c _=>dv rs k fun r' hr' d hd=> ?_);rw[Ff,Ff,h r' (Dq _ hr') d hd]
theorem j0(φ χ:Int->Int):∀c:aL,bh (fun m=>φ m+χ m) c=bh φ c+bh χ c
 | []=>by simp[bh]
 | p::c=>by rw[bh,bh,bh,j0 φ χ c,Int.mul_add];omega
theorem fZ{φ χ:Int->Int}:∀{c:aL},(∀p∈c,φ p.1=χ p.1)->bh φ c=bh χ c
 | [],_=>rfl
 | p::c,h=>by rw[bh,bh,h p Ds,fZ fun q hq=>h q (Dq _ hq)]
noncomputable def Sb(B:List Int)(φ:Int->Int)(m:Int):Int:=cU B fun b=>if Builtin.bitAnd m b=0 then φ (Builtin.bitOr m b)else 0
theorem ji(φ:Int->Int){t:Nat}(ht:t<256){n:Int}(hn:0<n):∀{B:List Int}{c:aL},cT B->ao c->bh φ (B.foldl (bH (t:Int) n) c)=bh φ c+n*Sb B φ (t:Int)
 | [],c,_,_=>by
  rw[List.foldl_nil];unfold Sb;rw[dR];omega
 | b::B,c,hB,h=>by
  obtain⟨j,rfl,hj⟩:=hB b Ds;rw[List.foldl_cons,ji φ ht hn (B:=B) (fun b hb=>hB b (Dq _ hb)) (gz h ht hn hj)];have e:bh φ (bH (t:Int) n c ((2^j:Nat):Int))=bh φ c+n*(if Builtin.bitAnd (t:Int) ((2^j:Nat):Int)=0 then φ (Builtin.bitOr (t:Int) ((2^j:Nat):Int))else 0):=by
   unfold bH
   split
   ·rw[yM φ h.1]
   ·simp
  rw[e];unfold Sb;rw[bS,Int.mul_add];omega
theorem j7(φ:Int->Int){B:List Int}(hB:cT B):∀{lev c:aL},ao lev->ao c->bh φ (vc B c lev)=bh φ c+bh (Sb B φ) lev
 | [],c,_,_=>by simp[vc,bh]
 | p::lev,c,hl,h=>by
  obtain⟨⟨t,et,ht⟩,hp⟩:=hl.2 p Ds;have hl2:ao lev:=⟨(EO.mp (show(p.1::lev.map (·.1)).Nodup from hl.1)).2,fun q hq=>hl.2 q (Dq _ hq)⟩;have h1:ao (bj B c p):=by
   unfold bj;rw[et];exact eN ht hp hB h
  have e:vc B c (p::lev)=vc B (bj B c p) lev:=rfl;rw[e,j7 φ hB hl2 h1,bh];have e2:bh φ (bj B c p)=bh φ c+p.2*Sb B φ p.1:=by
   unfold bj;rw[et];exact ji φ ht hp hB h
  rw[e2];omega
noncomputable def vi(B:List Int):aL->List aL->List aL
 | prev,[]=>[vc B [] prev]
 | prev,c::Ls=>vc B c prev::vi B c Ls
theorem o7(B:List Int):∀(prev:aL)(Ls:List aL)(j:Nat),(vi B prev Ls)[j]? =if j<=Ls.length then some (vc B ((Ls++[[]]).getD j []) ((prev::Ls).getD j []))else none
 | prev,[],0=>rfl
 | prev,[],j+1=>by simp[vi]
 | prev,c::Ls,0=>by simp[vi]
 | prev,c::Ls,j+1=>by
  rw[vi,Et,o7 B c Ls j];simp
theorem nS(Ls:List aL)(B:List Int):∀(i j:Nat),i<=Ls.length->(wl Ls B i)[j]? =if j=0\/i<j then(Ls++[[]])[j]? else some (vc B ((Ls++[[]]).getD j []) (Ls.getD (j-1) []))
 | 0,j,_=>by
  rw[wl]
  by_cases h:j=0\/0<j
  ·rw[D3 h]
  ·omega
 | i+1,j,hi=>by
  rw[wl,F6,jz]
  by_cases h:i+1=j
  ·subst h
   rw[D3 rfl,D3 (by omega),Dz (by omega),Dt,nS Ls B i (i+1) (by omega),D3 (.inr (by omega)),<-Dt];rfl
  ·rw[Dz h,nS Ls B i j (by omega)]
   by_cases h2:j=0\/i<j
   ·rw[D3 h2,D3 (by omega)]
   ·rw[Dz h2,Dz (by omega)]
theorem zB(c:aL)(r:List aL)(B:List Int):wl (c::r) B (c::r).length=c::vi B c r:=by
 refine F7 fun j=> ?_;rw[nS _ _ _ _ (Dx _)];cases j with
 | zero=>simp
 | succ j =>
  rw[Et,o7,ED]
  by_cases h:j<=r.length
  ·rw[Dz (by omega),D3 h]
   simp
  ·rw[D3 (.inr (by omega)),Dz h]
   rw[Ef (by simp;omega)]
noncomputable def bR(ψ:Nat->Int->Int):List aL->Int
 | []=>0
 | c::Ls=>bh (ψ 0) c+bR (fun q=>ψ (q+1)) Ls
theorem eI:∀{ψ χ:Nat->Int->Int}{Ls:List aL},(∀q,∀c∈Ls,∀p∈c,ψ q p.1=χ q p.1)->bR ψ Ls=bR χ Ls
 | _,_,[],_=>rfl
 | ψ,χ,c::Ls,h=>by
  rw[bR,bR,fZ fun p hp=>h 0 c Ds p hp,eI fun q d hd p hp=>h (q+1) d (Dq _ hd) p hp]
theorem lg{B:List Int}(hB:cT B):∀(r:List aL)(ψ:Nat->Int->Int)(prev:aL),ao prev->(∀c∈r,ao c)->bR ψ (vi B prev r)=bh (Sb B (ψ 0)) prev+bR (fun q m=>ψ q m+Sb B (ψ (q+1)) m) r
 | [],ψ,prev,hp,_=>by
  rw[vi,bR,bR,bR,j7 _ hB hp fM];simp[bh]
 | c::r,ψ,prev,hp,hr=>by
  have hc:=hr c Ds;rw[vi,bR,bR,j7 _ hB hp hc,lg hB r (fun q=>ψ (q+1)) c hc fun d hd=>hr d (Dq _ hd),j0];omega
theorem vx{B:List Int}(hB:cT B){Ls:List aL}(h0:Ls≠[])(h:∀c∈Ls,ao c)(ψ:Nat->Int->Int):bR ψ (wl Ls B Ls.length)=bR (fun q m=>ψ q m+Sb B (ψ (q+1)) m) Ls:=by
 cases Ls with
 | nil=>exact absurd rfl h0
 | cons c r =>
  rw[zB,bR,lg hB r _ c (h c Ds) fun d hd=>h d (Dq _ hd),bR,j0];omega
noncomputable def fR(m:Nat):List Nat:=(List.range 8).filter fun c=>m.testBit c
theorem fw{m c:Nat}(hc:c<8):(fR m).contains c=m.testBit c:=by
 unfold fR;rw[FH,EK,EW,Eb];exact⟨fun h=>h.2,fun h=>⟨hc,h⟩⟩
theorem yK(m c:Nat):(m &&& 2^c=0)↔m.testBit c=false:=by
 constructor
 ·intro h
  have:=Ek (fun x=>Nat.testBit x c) h
  simpa [Nat.testBit_and,Nat.testBit_two_pow_self]using this
 ·intro h
  refine Nat.eq_of_testBit_eq fun i=> ?_;rw[Nat.testBit_and,Nat.zero_testBit,Nat.testBit_two_pow]
  by_cases e:c=i
  ·subst e
   simp[h]
  ·simp[e]
noncomputable def bX(r:List Nat):List Int:=r.map fun c=>((2^c:Nat):Int)
theorem eU{r:List Nat}(h:∀c∈r,c<8):cT (bX r):=fun b hb=>by
 obtain⟨c,hc,rfl⟩:=Dv.mp hb;exact⟨c,rfl,h c hc⟩
noncomputable def rQ(aN:List (List Nat))(k q:Nat)(m:Int):Int:=if q<=k then cnt aN (fR m.toNat) (k-q)else 0
theorem zR{r:List Nat}(hr:∀c∈r,c<8){aN:List (List Nat)}(hrest:∀r∈aN,∀c∈r,c<8)(k q:Nat)(m:Nat):Sb (bX r) (rQ aN k (q+1)) (m:Int)=if q+1<=k then cU (r.filter fun c=> !(fR m).contains c) (fun c=>cnt aN (c::fR m) (k-(q+1)))else 0:=by
 induction r with
 | nil =>
  unfold Sb bX;rw[FK,dR,List.filter_nil,dR]
  split<;>rfl
 | cons c r ih =>
  have hc:=hr c Ds;have ih:=ih fun d hd=>hr d (Dq _ hd);have e0:Sb (bX (c::r)) (rQ aN k (q+1)) (m:Int)=(if Builtin.bitAnd (m:Int) ((2^c:Nat):Int)=0 then rQ aN k (q+1) (Builtin.bitOr (m:Int) ((2^c:Nat):Int))else 0)+Sb (bX r) (rQ aN k (q+1)) (m:Int):=by
   unfold Sb bX;rw[D2,bS]
  rw[e0,ih,vL,py,Fs,fw hc];have e1:(((m &&& 2^c:Nat):Int)=0)↔m.testBit c=false:=by
   rw[<- yK];omega
  cases hb:m.testBit c with
  | true =>
   rw[Dz (fun z=>by have:=e1.mp z;rw[hb]at this;cases this)];simp
  | false =>
   rw[D3 (e1.mpr hb)];simp only[Bool.not_false,if_true];unfold rQ
   by_cases hk:q+1<=k
   ·rw[D3 hk,D3 hk,D3 hk,bS]
    refine Ek (·+_) (dv aN _ fun r' hr' d hd=> ?_);have hd8:=hrest r' hr' d hd;rw[show((m ||| 2^c:Nat):Int).toNat=m ||| 2^c by simp,fw hd8,Ff,fw hd8,Nat.testBit_or,Nat.testBit_two_pow,Bool.or_comm]
    congr 1
    by_cases e:c=d
    ·subst e;simp
    ·have:¬d=c:=fun z=>e z.symm
     simp[e,this]
   ·rw[Dz hk,Dz hk,Dz hk]
    rfl
theorem tM{r:List Nat}(hr:∀c∈r,c<8){aN:List (List Nat)}(hrest:∀r∈aN,∀c∈r,c<8)(k q:Nat)(m:Nat):rQ aN k q (m:Int)+Sb (bX r) (rQ aN k (q+1)) (m:Int)=rQ (r::aN) k q (m:Int):=by
 rw[zR hr hrest];unfold rQ
 by_cases hq:q<=k
 ·rw[D3 hq,D3 hq]
  cases e:k-q with
  | zero =>
   rw[Dz (by omega),cnt];omega
  | succ j =>
   rw[D3 (by omega),show k-(q+1)=j by omega];show _=cnt (r::aN) (fR m) (j+1);rw[cnt];simp
 ·rw[Dz hq,Dz hq,Dz (by omega)]
  rfl
noncomputable def lB(rows:List (List Nat)):Prop:=∀r∈rows,∀c∈r,c<8
theorem uK(k:Nat):∀(rows aN:List (List Nat)),lB rows->lB aN->bR (rQ aN k) (bo (rows.map bX))=cnt (rows++aN) [] k:=by
 intro rows;refine dc (P:=fun rows=>∀aN,lB rows->lB aN->bR (rQ aN k) (bo (rows.map bX))=cnt (rows++aN) [] k) ?_ ?_ rows
 ·intro aN _ _
  have e:bo (([]:List (List Nat)).map bX)=[[(0,1)]]:=rfl;rw[e,bR,bR,bh,bh];unfold rQ;rw[D3 (EY _)];have e2:fR (Int.toNat (0,1).1)=[]:=rfl;show(1:Int)*cnt aN (fR (Int.toNat 0)) (k-0)+0+0=_;have e3:fR (Int.toNat 0)=[]:=rfl;rw[e3,Nat.sub_zero,List.nil_append];omega
 ·intro l r ih aN h1 h2
  have hr:∀c∈r,c<8:=h1 r (by simp);have hl:lB l:=fun r' hr' =>h1 r' (EH _ hr');have hg:∀B∈l.map bX,cT B:=fun B hB=>by
   obtain⟨r',hr',rfl⟩:=Dv.mp hB;exact eU (hl r' hr')
  obtain⟨g1,g2⟩:=dk hg;rw[EF,D2,FK,fo,vx (eU hr) (fun z=>by rw[z]at g1;simp at g1) g2,List.append_assoc];have h3:lB (r::aN):=fun r' hr' =>by
   rcases D8.mp hr' with z|z
   ·rw[z];exact hr
   ·exact h2 r' z
  rw[show[r]++aN=r::aN from rfl,<-ih (r::aN) hl h3];refine eI fun q c hc p hp=> ?_;obtain⟨⟨m,em,_⟩,_⟩:=(g2 c hc).2 p hp;rw[em];exact tM hr h2 k q m
theorem o8:∀c:aL,bh (fun _=>1) c=fg c
 | []=>rfl
 | p::c=>by rw[bh,o8 c];unfold fg;rw[D2,F9];omega
theorem gr:∀c:aL,bh (fun _=>0) c=0
 | []=>rfl
 | p::c=>by rw[bh,gr c];omega
theorem pC:∀(Ls:List aL)(k:Nat),bR (fun q _=>if q=k then 1 else 0) Ls=fg (Ls.getD k [])
 | [],k=>by simp[bR,fg]
 | c::Ls,0=>by
  rw[bR];have e1:(fun _:Int=>if 0=0 then(1:Int)else 0)=fun _=>1:=rfl;have e2:∀Ls:List aL,bR (fun q _=>if q+1=0 then(1:Int)else 0) Ls=0:=by
   intro Ls;have h:∀(Ls:List aL)(ψ:Nat->Int->Int),(∀q m,ψ q m=0)->bR ψ Ls=0:=by
    intro Ls
    induction Ls with
    | nil=>intro _ _;rfl
    | cons d Ls ih =>
     intro ψ hψ;rw[bR,ih _ fun q m=>hψ (q+1) m,fZ (χ:=fun _=>0) fun p _=>hψ 0 p.1,gr];rfl
   exact h Ls _ fun q m=>by simp
  rw[e1,e2 Ls,o8];simp
 | c::Ls,k+1=>by
  rw[bR];have e1:bh (fun _:Int=>if 0=k+1 then(1:Int)else 0) c=0:=by
   have:(fun _:Int=>if 0=k+1 then(1:Int)else 0)=fun _=>0:=by funext _;simp
   rw[this,gr]
  have e2:(fun(q:Nat) (_:Int)=>if q+1=k+1 then(1:Int)else 0)=fun q _=>if q=k then 1 else 0:=by funext q _;simp
  rw[e1,e2,pC Ls k];simp
theorem uL(rows:List (List Nat))(h:lB rows)(k:Nat):fg ((bo (rows.map bX)).getD k [])=cnt rows [] k:=by
 have e:=uK k rows [] h (fun r hr=>by cases hr);rw[Ey]at e;rw[<- e,<-pC];refine eI fun q c _ p _=> ?_;unfold rQ
 by_cases hq:q=k
 ·subst hq
  rw[D3 rfl,D3 (Dx _),Nat.sub_self,cnt]
 ·rw[Dz hq]
  by_cases h2:q<=k
  ·rw[D3 h2]
   cases e:k-q with
   | zero=>omega
   | succ j=>rw[cnt]
  ·rw[Dz h2]
theorem sg{c:aL}(h:ao c):0<c.length↔0<fg c:=by
 cases c with
 | nil=>simp[fg]
 | cons p c =>
  have h1:=(h.2 p Ds).2;have h2:∀c:aL,(∀q∈c,0<q.2)->0<=fg c:=by
   intro c
   induction c with
   | nil=>intro _;exact Fh _
   | cons q c ih =>
    intro hq;have a:=hq q Ds;have b:=ih fun r hr=>hq r (Dq _ hr);unfold fg at b ⊢;rw[D2,F9];omega
  have h3:=h2 c fun q hq=>(h.2 q (Dq _ hq)).2
  constructor
  ·intro _
   unfold fg at h3 ⊢;rw[D2,F9];omega
  ·intro _
   simp
theorem sy(rows:List (List Nat))(h:lB rows):wJ (bo (rows.map bX))=((List.range (rows.length+1)).map (cnt rows [])).filter fun n=>decide (0<n):=by
 have hg:∀B∈rows.map bX,cT B:=fun B hB=>by
  obtain⟨r',hr',rfl⟩:=Dv.mp hB;exact eU (h r' hr')
 obtain⟨g1,g2⟩:=dk hg;have e:(bo (rows.map bX)).map fg=(List.range (rows.length+1)).map (cnt rows []):=by
  refine F7 fun i=> ?_;rw[D7,D7]
  by_cases hi:i<rows.length+1
  ·have hi' :i<(bo (rows.map bX)).length:=by rw[g1,Dp];exact hi
   rw[Ez hi,Dw hi',FG,FG,<-uL rows h i,Dt,Dw hi'];rfl
  ·rw[Ef (by rw[g1,Dp];omega),Ef (by simpa using hi)]
   rfl
 unfold wJ;rw[<- e,List.filter_map]
 congr 1
 refine List.filter_congr fun c hc=> ?_;rw[Function.comp_apply,decide_eq_decide];exact sg (g2 c hc)
noncomputable abbrev gH:=Nat×Nat
noncomputable def BR(cells:List gH)(k:Nat):List gH:=(cells.drop (k+1)).filter fun c=>decide ((cells.getD k (0,0)).1<c.1)
noncomputable def pl:Nat->List gH->List Int->Nat->Int
 | _,_,_,0=>1
 | 0,_,_,_+1=>0
 | n+1,cells,T,j+1=>cU (List.range cells.length) fun k=>if T.contains ((cells.getD k (0,0)).2:Int)then 0 else pl n (BR cells k) (T++[((cells.getD k (0,0)).2:Int)]) j
theorem eP:∀(rs:List (List Nat))(T:List Nat)(k:Nat),0<cnt rs T (k+1)->0<cnt rs T k
 | [],T,k,h=>by rw[cnt]at h;omega
 | r::rs,T,0,_=>by rw[fS];decide
 | r::rs,T,k+1,h=>by
  rw[cnt]at h ⊢;have n1:=ag rs T (k+1);have n2:0<=cU (r.filter fun c=> !T.contains c) fun c=>cnt rs (c::T) k:=bV fun c _=>ag rs (c::T) k
  by_cases h1:0<cnt rs T (k+1+1)
  ·have:=eP rs T (k+1) h1
   omega
  ·have n3:=ag rs T (k+1+1)
   have h2:0<cU (r.filter fun c=> !T.contains c) fun c=>cnt rs (c::T) (k+1):=by omega
   have key:∀l:List Nat,0<(cU l fun c=>cnt rs (c::T) (k+1))->0<cU l fun c=>cnt rs (c::T) k:=by
    intro l
    induction l with
    | nil=>intro h;rw[dR]at h;exact absurd h (by decide)
    | cons c l ih =>
     intro h;rw[bS]at h ⊢;have a1:=ag rs (c::T) k;have a2:0<=cU l fun c=>cnt rs (c::T) k:=bV fun c _=>ag rs (c::T) k
     by_cases h3:0<cnt rs (c::T) (k+1)
     ·have:=eP rs (c::T) k h3
      omega
     ·have:=ih (by have:=ag rs (c::T) (k+1);omega)
      omega
   have:=key _ h2;omega
theorem mx(rs:List (List Nat))(T:List Nat):∀(j i:Nat),i<=j->0<cnt rs T j->0<cnt rs T i
 | 0,i,h,hp=>by rw[show i=0 by omega];exact hp
 | j+1,i,h,hp=>by
  by_cases e:i=j+1
  ·rw[e];exact hp
  ·exact mx rs T j i (by omega) (eP rs T j hp)
noncomputable def bt(z:Str):List Nat:=(List.range z.length).filter fun c=>z.cps.toList.getD c 0==120
noncomputable def att(a b:gH):Bool:=a.1==b.1||a.2==b.2
noncomputable def off(x:gH)(l:List gH):List gH:=l.filter fun y=> !att x y
noncomputable def CO(f:gH->List gH->Int):List gH->Int
 | []=>0
 | x::xs=>f x xs+CO f xs
noncomputable def rk:Nat->List gH->Int
 | 0=>fun _=>1
 | k+1=>CO fun x xs=>rk k (off x xs)
noncomputable def freeC(T:List Nat)(l:List gH):List gH:=l.filter fun c=> !T.contains c.2
end IR
namespace IR
open PySem L2
noncomputable def bk(w j:Nat):Nat:=if j<w then w-1-j else j
noncomputable def ch:Nat->Nat->Nat
 | _,0=>1
 | 0,_+1=>0
 | n+1,k+1=>ch n (k+1)+ch n k
noncomputable def fl:Nat->Nat->Nat
 | _,0=>1
 | n,k+1=>n*fl (n-1) k
noncomputable def fn(m n k:Nat):Int:=((ch m k*fl n k:Nat):Int)
section
variable(b:Nat->Nat->Bool)
noncomputable def iz:List Nat->List Nat->Nat->Int
 | [],_,j=>if j=0 then 1 else 0
 | i::L,C,j=>cU C fun c=>if b i c then(if j=0 then 0 else iz L (C.erase c) (j-1))else iz L (C.erase c) j
end
noncomputable def fx(x:Int):Nat->Int
 | 0=>1
 | m+1=>fx x m*(x-m)
end IR
namespace IR
end IR
namespace IR
end IR
namespace IR
open PySem L2
end IR
namespace IR
open PySem
end IR
namespace L2
open SQ
end L2
namespace OD
section
variable{α:Type}[DecidableEq α](ok:List α->α->Bool)
noncomputable def cnt:List α->List α->Nat->Nat
 | _,_,0=>1
 | _,[],_+1=>0
 | b,c::L,m+1=>(if ok b c then cnt (b++[c]) L m else 0)+cnt b L (m+1)
variable{ok}
theorem fS(b L:List α):cnt ok b L 0=1:=by cases L<;>rfl
variable(lt:α->α->Bool)
variable{lt}
end
end OD
namespace OD
section
variable{α:Type}[DecidableEq α]{ok:List α->α->Bool}{lt:α->α->Bool}
noncomputable def turn(ok:List α->α->Bool)(nb:List α->Int)(s:List α×Int)(c:α):List α×Int :=
 if ok s.1 c then(if s.2<nb (s.1++[c])then(s.1++[c],s.2)else(s.1,s.2-nb (s.1++[c])))else s
end
end OD
namespace IR
open PySem
noncomputable def okP(b:List (Int×Int))(c:Int×Int):Bool:=(b.all fun x=>decide (x.1<c.1))&&(b.all fun x=>decide (x.2≠c.2))
section
variable{rows:List (List Nat)}(hr:∀cs∈rows,cs.Pairwise (·<·))
end
theorem kX{H:aL}(nd:(H.map (·.1)).Nodup){p q:Int×Int}(hp:p∈H)(hq:q∈H)(e:p.1=q.1):p=q:=by
 induction H with
 | nil=>cases hp
 | cons x H ih =>
  rw[D2,EO]at nd
  rcases D8.mp hp with e1|hp1
  ·rcases D8.mp hq with e2|hq1
   ·rw[e1,e2]
   ·exact absurd (show x.1∈H.map (·.1)from Dv.mpr ⟨q,hq1,by rw[<- e,e1]⟩) nd.1
  ·rcases D8.mp hq with e2|hq1
   ·exact absurd (show x.1∈H.map (·.1)from Dv.mpr ⟨p,hp1,by rw[e,e2]⟩) nd.1
   ·exact ih nd.2 hp1 hq1
theorem cX{T U:List Int}(nd:T.Nodup)(h:T ⊆ U):T.length<=U.length:=by
 induction T generalizing U with
 | nil=>exact EY _
 | cons x T ih =>
  obtain⟨n1,n2⟩:=EO.mp nd;have hx:x∈U:=h Ds;have:=ih (U:=U.erase x) n2 fun y hy=>(List.mem_erase_of_ne (fun z:y=x=>n1 (by rw[<- z];exact hy))).mpr (h (Dq _ hy));rw[List.length_erase_of_mem hx]at this;have:0<U.length:=List.length_pos_of_mem hx;rw[ED];omega
theorem cu{H:aL}{c r:Int}(h:af H c=some r):(c,r)∈H:=by
 unfold af at h;cases e:H.find? fun p=>decide (p.1=c)with
 | none=>rw[e]at h;cases h
 | some p =>
  rw[e]at h;have h1:=List.find?_some e;have h2:=List.mem_of_find?_eq_some e;have h1:p.1=c:=Eg h1;have h:p.2=r:=EJ h;rw[<- h1,<-h];exact h2
theorem dq{H:aL}{c:Int}:af H c=none↔c∉H.map (·.1):=by
 unfold af;rw[Option.map_eq_none_iff,List.find?_eq_none]
 constructor
 ·intro h hm
  obtain⟨p,hp,rfl⟩:=Dv.mp hm;exact h p hp (EX rfl)
 ·intro h p hp e
  exact h (Dv.mpr ⟨p,hp,Eg e⟩)
theorem xV{H:aL}{c r:Int}(nd:(H.map (·.1)).Nodup)(h:(c,r)∈H):af H c=some r:=by
 cases e:af H c with
 | none=>exact absurd (Dv.mpr ⟨_,h,rfl⟩) (dq.mp e)
 | some r' =>
  have h' :=cu e;have:=kX nd h h' rfl;rw[show r' =r from(Ek Prod.snd this).symm]
theorem lz{H:aL}{c r:Int}(h:af H c=none):be H c r=H++[(c,r)]:=by
 unfold be;rw[Dz];intro z;rw[FO]at z;obtain⟨p,hp,e⟩:=z;exact dq.mp h (Dv.mpr ⟨p,hp,Eg e⟩)
theorem tI{c r' r:Int}:∀{H:aL},(H.map (·.1)).Nodup->af H c=some r' ->∃l1 l2,H=l1++(c,r')::l2/\be H c r=l1++(c,r)::l2:=by
 intro H nd h;have hm:=cu h;obtain⟨l1,l2,e⟩:=List.append_of_mem hm;refine⟨l1,l2,e,?_⟩;unfold be;rw[D3 (FO.mpr ⟨_,hm,EX rfl⟩),e,EF,D2,D3 rfl];rw[e,EF,D2]at nd;have n1:∀p∈l1,p.1≠c:=fun p hp z=>(Er.mp nd).2.2 p.1 (Dv.mpr ⟨p,hp,rfl⟩) c Ds z;have n2:∀p∈l2,p.1≠c:=fun p hp z=>(EO.mp (Er.mp nd).2.1).1 (z▸Dv.mpr ⟨p,hp,rfl⟩);have same:∀l:aL,(∀p∈l,p.1≠c)->l.map (fun p=>if p.1=c then(p.1,r)else p)=l:=fun l hl=>by
  conv=>rhs;rw[<- List.map_id l]
  exact Ep fun p hp=>Dz (hl p hp)
 rw[same l1 n1,same l2 n2]
theorem fN{H:aL}{c d r:Int}:af (be H c r) d=if d=c then some r else af H d:=by
 by_cases hd:d=c
 ·subst hd
  rw[D3 rfl];unfold be
  split
  ·rename_i h
   induction H with
   | nil=>cases h
   | cons p H ih =>
    rw[D2];unfold af;rw[Ed]
    by_cases e:p.1=d
    ·rw[D3 e];simp[e]
    ·rw[Dz e]
     simp only[e,FP];rw[Fb,EV e,Bool.false_or]at h;exact ih h
  ·rename_i h
   unfold af;rw[List.find?_append];have:(H.find? fun p=>decide (p.1=d))=none:=by
    rw[List.find?_eq_none];intro p hp e;exact h (FO.mpr ⟨p,hp,e⟩)
   rw[this];simp
 ·rw[Dz hd]
  unfold be
  split
  ·unfold af
   induction H with
   | nil=>rfl
   | cons p H ih =>
    rename_i h;rw[D2,Ed,Ed];have tail:((H.map fun p=>if p.1=c then(p.1,r)else p).find? fun p=>decide (p.1=d)).map (·.2)=(H.find? fun p=>decide (p.1=d)).map (·.2):=by
     by_cases h' :(H.any fun p=>decide (p.1=c))=true
     ·exact ih h'
     ·have:(H.map fun p=>if p.1=c then(p.1,r)else p)=H:=by
       conv=>rhs;rw[<- List.map_id H]
       refine Ep fun p hp=>Dz fun e=>h' ?_;exact FO.mpr ⟨p,hp,EX e⟩
      rw[this]
    by_cases e:p.1=c
    ·rw[D3 e]
     have e2:¬p.1=d:=fun z=>hd (z.symm.trans e);simp only[e2,FP];exact tail
    ·rw[Dz e]
     by_cases e2:p.1=d
     ·simp[e2]
     ·simp only[e2,FP]
      exact tail
  ·unfold af
   rw[List.find?_append];have:¬c=d:=fun z=>hd z.symm;simp[this]
noncomputable def df(C:List (List Int))(r:Int):List Int:=C.getD r.toNat []
noncomputable def ed(rec:aL->Int->List Int->Bool×aL×List Int)(row:Int):List Int->aL->List Int->Bool×aL×List Int
 | [],H,T=>(false,H,T)
 | c::cs,H,T=>if T.contains c then ed rec row cs H T else match af H c with
  | none=>(true,be H c row,T++[c])
  | some r=>match rec H r (T++[c])with
   | (true,H',T')=>(true,be H' c row,T')
   | (false,H',T')=>ed rec row cs H' T'
noncomputable def tk(C:List (List Int)):Nat->aL->Int->List Int->Bool×aL×List Int
 | 0,H,_,T=>(false,H,T)
 | n+1,H,row,T=>ed (tk C n) row (df C row) H T
structure Mt(C:List (List Int))(H:aL):Prop where
 keys:(H.map (·.1)).Nodup
 rows:(H.map (·.2)).Nodup
 edge:∀p∈H,p.1∈df C p.2
structure Mt0(C:List (List Int))(H:aL):Prop where
 keys:(H.map (·.1)).Nodup
 edge:∀p∈H,p.1∈df C p.2
structure DV(C:List (List Int))(H:aL)(row:Int)(T:List Int)(H' :aL):Prop where
 good:Mt0 C H'
 rows:(H'.map (·.2)).Perm (row::H.map (·.2))
 keys:∀c,c∈H.map (·.1)->c∈H'.map (·.1)
 stay:∀c∈T,af H' c=af H c
theorem na{C:List (List Int)}{rec:aL->Int->List Int->Bool×aL×List Int}{row:Int}
  (hr:∀H r T b H' T',Mt0 C H->rec H r T=(b,H',T')->T ⊆ T' /\(b=false->H' =H)/\(b=true->DV C H r T H')) :
  ∀{cs:List Int}{H:aL}{T:List Int}{b:Bool}{H' :aL}{T' :List Int},(∀c∈cs,c∈df C row)->Mt0 C H->ed rec row cs H T=(b,H',T')->T ⊆ T' /\(b=false->H' =H)/\(b=true->DV C H row T H')
 | [],H,T,b,H',T',hc,m,h=>by
  cases h;exact⟨fun _ z=>z,fun _=>rfl,fun z=>by cases z⟩
 | c::cs,H,T,b,H',T',hc,m,h=>by
  unfold ed at h
  split at h
  ·exact na hr (fun d hd=>hc d (Dq _ hd)) m h
  ·rename_i hT
   have hT:c∉T:=fun z=>hT (EK.mpr z)
   split at h
   ·rename_i e
    cases h;refine⟨List.subset_append_left _ _,(fun z=>by cases z),fun _=> ?_⟩;rw[lz e];refine⟨⟨?_,fun p hp=> ?_⟩,?_,fun d hd=> ?_,fun d hd=> ?_⟩
    ·rw[EF,Er]
     refine⟨m.keys,by simp,fun a ha x hx z=> ?_⟩;rw[List.map_singleton,Ee]at hx;subst hx z;exact dq.mp e ha
    ·rcases EL.mp hp with z|z
     ·exact m.edge p z
     ·rw[Ee.mp z]
      exact hc c Ds
    ·rw[EF]
     exact List.perm_append_comm
    ·rw[EF]
     exact EH _ hd
    ·rw[<- lz e,fN,Dz (fun z:d=c=>hT (by rw[<- z];exact hd))]
   ·rename_i r e
    cases hq:rec H r (T++[c])with
    | mk b1 w =>
     obtain⟨H1,T1⟩:=w;rw[hq]at h;obtain⟨k1,k2,k3⟩:=hr H r (T++[c]) b1 H1 T1 m hq;cases b1 with
     | false =>
      have e1:=k2 rfl;subst e1;obtain⟨j1,j2,j3⟩:=na hr (fun d hd=>hc d (Dq _ hd)) m h;have sub:T ⊆ T1:=fun x hx=>k1 (EH _ hx);exact⟨fun x hx=>j1 (sub hx),j2,fun z=>by
       obtain⟨w1,w2,w3,w4⟩:=j3 z;exact⟨w1,w2,w3,fun d hd=>w4 d (sub hd)⟩⟩
     | true =>
      cases h;obtain⟨w1,w2,w3,w4⟩:=k3 rfl;refine⟨fun x hx=>k1 (EH _ hx),(fun z=>by cases z),fun _=> ?_⟩;have e2:af H1 c=some r:=by rw[w4 c (by simp),e]
      obtain⟨l1,l2,e3,e4⟩:=tI (r:=row) w1.keys e2;rw[e3]at w2;refine⟨⟨?_,fun p hp=> ?_⟩,?_,fun d hd=> ?_,fun d hd=> ?_⟩
      ·have:=w1.keys
       rw[e3]at this;rw[e4]
       simpa using this
      ·rw[e4]at hp
       rcases EL.mp hp with z|z
       ·exact w1.edge p (by rw[e3];exact EH _ z)
       ·rcases D8.mp z with z|z
        ·rw[z]
         exact hc c Ds
        ·exact w1.edge p (by rw[e3];exact EM _ (Dq _ z))
      ·rw[e4,EF,D2]
       rw[EF,D2]at w2;have a1:(l1.map (·.2)++r::l2.map (·.2)).Perm (r::(l1.map (·.2)++l2.map (·.2))):=List.perm_middle;have a2:(l1.map (·.2)++l2.map (·.2)).Perm (H.map (·.2)):=(List.perm_cons r).mp (a1.symm.trans w2);have a3:(l1.map (·.2)++row::l2.map (·.2)).Perm (row::(l1.map (·.2)++l2.map (·.2))):=List.perm_middle;exact a3.trans (a2.cons row)
      ·have:=w3 d hd
       rw[e3]at this;rw[e4]
       simpa using this
      ·rw[fN,Dz (fun z:d=c=>hT (by rw[<- z];exact hd))]
       exact w4 d (EH _ hd)
theorem yT{C:List (List Int)}:∀{n:Nat}{H:aL}{row:Int}{T:List Int}{b:Bool}{H' :aL}{T' :List Int},Mt0 C H->tk C n H row T=(b,H',T')->T ⊆ T' /\(b=false->H' =H)/\(b=true->DV C H row T H')
 | 0,H,row,T,b,H',T',m,h=>by
  cases h;exact⟨fun _ z=>z,fun _=>rfl,fun z=>by cases z⟩
 | n+1,H,row,T,b,H',T',m,h=>na (fun H r T b H' T' m h=>yT m h) (fun c hc=>hc) m h
theorem DV.mt{C:List (List Int)}{H:aL}{row:Int}{T:List Int}{H' :aL}(w:DV C H row T H')(m:Mt C H)(hr:row∉H.map (·.2)):Mt C H' :=
 ⟨w.good.keys,w.rows.nodup_iff.mpr (EO.mpr ⟨hr,m.rows⟩),w.good.edge⟩
noncomputable def dL(C:List (List Int))(H:aL)(S:List Int):Prop:=∀c∈S,∃r,af H c=some r/\∀d∈df C r,d∈S
theorem ng{C:List (List Int)}{rec:aL->Int->List Int->Bool×aL×List Int}{row:Int}{n:Nat}
  (hr:∀H r T H' T',T.Nodup->(∀c∈T,0<=c/\c<8)->8<n+T.length->rec H r T=(false,H',T')->H' =H/\T ⊆ T' /\T'.Nodup/\(∀c∈T',0<=c/\c<8)/\(∀d∈df C r,d∈T')/\∀c∈T',c∈T\/∃q,af H c=some q/\∀d∈df C q,d∈T') :
  ∀{cs:List Int}{H:aL}{T:List Int}{H' :aL}{T' :List Int},(∀c∈cs,0<=c/\c<8)->T.Nodup->(∀c∈T,0<=c/\c<8)->8<n+1+T.length->ed rec row cs H T=(false,H',T') ->
  H' =H/\T ⊆ T' /\T'.Nodup/\(∀c∈T',0<=c/\c<8)/\(∀d∈cs,d∈T')/\∀c∈T',c∈T\/∃q,af H c=some q/\∀d∈df C q,d∈T'
 | [],H,T,H',T',_,nd,bd,_,h=>by
  cases h;exact⟨rfl,fun _ z=>z,nd,bd,fun d hd=>(by cases hd),fun c hc=>.inl hc⟩
 | c::cs,H,T,H',T',hc,nd,bd,hn,h=>by
  unfold ed at h
  split at h
  ·rename_i hT
   obtain⟨k1,k2,k3,k4,k5,k6⟩:=ng hr (fun d hd=>hc d (Dq _ hd)) nd bd hn h;refine⟨k1,k2,k3,k4,fun d hd=> ?_,k6⟩
   rcases D8.mp hd with rfl|hd
   ·exact k2 (EK.mp hT)
   ·exact k5 d hd
  ·rename_i hT
   have hT:c∉T:=fun z=>hT (EK.mpr z)
   split at h
   ·cases h
   ·rename_i r e
    have nd1:(T++[c]).Nodup:=by
     rw[Er];refine⟨nd,by simp,fun a ha x hx z=> ?_⟩;rw[Ee]at hx;subst hx z;exact hT ha
    have bd1:∀d∈T++[c],0<=d/\d<8:=fun d hd=>by
     rcases EL.mp hd with z|z
     ·exact bd d z
     ·rw[Ee.mp z]
      exact hc c Ds
    cases hq:rec H r (T++[c])with
    | mk b1 w =>
     obtain⟨H1,T1⟩:=w;rw[hq]at h;cases b1 with
     | true=>cases h
     | false =>
      obtain⟨j1,j2,j3,j4,j5,j6⟩:=hr H r (T++[c]) H1 T1 nd1 bd1 (by rw[EC,FS];omega) hq;subst j1;have hl:T.length<=T1.length:=by
       have:=cX nd (fun x hx=>j2 (EH _ hx));exact this
      obtain⟨k1,k2,k3,k4,k5,k6⟩:=ng hr (fun d hd=>hc d (Dq _ hd)) j3 j4 (by omega) h;refine⟨k1,fun x hx=>k2 (j2 (EH _ hx)),k3,k4,fun d hd=> ?_,fun d hd=> ?_⟩
      ·rcases D8.mp hd with rfl|hd
       ·exact k2 (j2 (by simp))
       ·exact k5 d hd
      ·rcases k6 d hd with z|z
       ·rcases j6 d z with y|⟨q,y1,y2⟩
        ·rcases EL.mp y with y|y
         ·exact .inl y
         ·rw[Ee.mp y]
          exact .inr ⟨r,e,fun x hx=>k2 (j5 x hx)⟩
        ·exact .inr ⟨q,y1,fun x hx=>k2 (y2 x hx)⟩
       ·exact .inr z
theorem sZ{C:List (List Int)}(hC:∀r,∀c∈df C r,0<=c/\c<8):∀{n:Nat}{H:aL}{row:Int}{T:List Int}{H' :aL}{T' :List Int},T.Nodup->(∀c∈T,0<=c/\c<8)->8<n+T.length->tk C n H row T=(false,H',T') ->
  H' =H/\T ⊆ T' /\T'.Nodup/\(∀c∈T',0<=c/\c<8)/\(∀d∈df C row,d∈T')/\∀c∈T',c∈T\/∃q,af H c=some q/\∀d∈df C q,d∈T'
 | 0,H,row,T,H',T',nd,bd,hn,h=>by
  have h8:=cX (U:=[0,1,2,3,4,5,6,7]) nd fun x hx=>by
   obtain⟨a,b⟩:=bd x hx;have:x=0\/x=1\/x=2\/x=3\/x=4\/x=5\/x=6\/x=7:=by omega
   simp only[D8];omega
  have h8:T.length<=8:=h8;omega
 | n+1,H,row,T,H',T',nd,bd,hn,h=>ng (fun H r T H' T' nd bd hn h=>sZ hC nd bd hn h) (hC row) nd bd hn h
theorem gu{C:List (List Int)}{S:List Int}{rec:aL->Int->List Int->Bool×aL×List Int}{row:Int}
  (hf:∀H r T H' T',rec H r T=(false,H',T')->H' =H)
  (hr:∀H r T,dL C H S->(∀d∈df C r,d∈S)->(rec H r T).1=false) :
  ∀{cs:List Int}{H:aL}{T:List Int},dL C H S->(∀d∈cs,d∈S)->(ed rec row cs H T).1=false
 | [],H,T,_,_=>rfl
 | c::cs,H,T,cl,hc=>by
  unfold ed
  split
  ·exact gu hf hr cl fun d hd=>hc d (Dq _ hd)
  ·obtain⟨r,e,hd⟩:=cl c (hc c Ds)
   rw[e];dsimp only;have h1:=hr H r (T++[c]) cl hd;cases hq:rec H r (T++[c])with
   | mk b w =>
    obtain⟨H1,T1⟩:=w;rw[hq]at h1;have h1:b=false:=h1;subst h1;have e1:=hf H r (T++[c]) H1 T1 hq;subst e1;exact gu hf hr cl fun d hd=>hc d (Dq _ hd)
theorem gv{rec:aL->Int->List Int->Bool×aL×List Int}{row:Int}(hf:∀H r T H' T',rec H r T=(false,H',T')->H' =H):∀{cs:List Int}{H:aL}{T:List Int}{H' :aL}{T' :List Int},ed rec row cs H T=(false,H',T')->H' =H
 | [],H,T,H',T',h=>by cases h;rfl
 | c::cs,H,T,H',T',h=>by
  unfold ed at h
  split at h
  ·exact gv hf h
  ·split at h
   ·cases h
   ·rename_i r e
    cases hq:rec H r (T++[c])with
    | mk b w =>
     obtain⟨H1,T1⟩:=w;rw[hq]at h;cases b with
     | true=>cases h
     | false =>
      have e1:=hf H r (T++[c]) H1 T1 hq;subst e1;exact gv hf h
theorem eZ{C:List (List Int)}:∀{n:Nat}{H:aL}{row:Int}{T:List Int}{H' :aL}{T' :List Int},tk C n H row T=(false,H',T')->H' =H
 | 0,H,row,T,H',T',h=>by cases h;rfl
 | n+1,H,row,T,H',T',h=>gv (fun H r T H' T' h=>eZ h) h
theorem pD{C:List (List Int)}{S:List Int}:∀{n:Nat}{H:aL}{row:Int}{T:List Int},dL C H S->(∀d∈df C row,d∈S)->(tk C n H row T).1=false
 | 0,H,row,T,_,_=>rfl
 | n+1,H,row,T,cl,hc=>gu (fun H r T H' T' h=>eZ h) (fun H r T cl hc=>pD cl hc) cl hc
theorem kB{C:List (List Int)}{S:List Int}{rec:aL->Int->List Int->Bool×aL×List Int}{row:Int}
  (hf:∀H r T H' T',rec H r T=(false,H',T')->H' =H)
  (hs:∀H r T,dL C H S->(∀d∈df C r,d∈S)->(rec H r T).1=false)
  (hr:∀H r T H' T',dL C H S->rec H r T=(true,H',T')->∀c∈S,af H' c=af H c) :
  ∀{cs:List Int}{H:aL}{T:List Int}{H' :aL}{T' :List Int},dL C H S->ed rec row cs H T=(true,H',T')->∀c∈S,af H' c=af H c
 | [],H,T,H',T',_,h=>by cases h
 | c::cs,H,T,H',T',cl,h=>by
  unfold ed at h
  split at h
  ·exact kB hf hs hr cl h
  ·split at h
   ·rename_i e
    cases h;intro d hd;rw[fN,Dz fun z:d=c=> ?_];obtain⟨r,e2,_⟩:=cl d hd;rw[z,e]at e2;cases e2
   ·rename_i r e
    cases hq:rec H r (T++[c])with
    | mk b w =>
     obtain⟨H1,T1⟩:=w;rw[hq]at h;cases b with
     | true =>
      cases h;intro d hd;rw[fN,Dz fun z:d=c=> ?_]
      ·exact hr H r (T++[c]) _ _ cl hq d hd
      ·obtain⟨r',e2,h2⟩:=cl d hd
       rw[z,e]at e2;cases e2;have:=hs H r (T++[c]) cl h2;rw[hq]at this;cases this
     | false =>
      have e1:=hf H r (T++[c]) H1 T1 hq;rw[e1]at h;exact kB hf hs hr cl h
theorem sY{C:List (List Int)}{S:List Int}:∀{n:Nat}{H:aL}{row:Int}{T:List Int}{H' :aL}{T' :List Int},dL C H S->tk C n H row T=(true,H',T')->∀c∈S,af H' c=af H c
 | 0,H,row,T,H',T',_,h=>by cases h
 | n+1,H,row,T,H',T',cl,h=>kB (fun H r T H' T' h=>eZ h) (fun H r T cl hc=>pD cl hc) (fun H r T H' T' cl h=>sY cl h) cl h
noncomputable def hd(C:List (List Int)):Nat->aL
 | 0=>[]
 | k+1=>(tk C 9 (hd C k) (k:Nat) []).2.1
structure lA(C:List (List Int))(k:Nat)(H:aL):Prop where
 mt:Mt C H
 rows:∀r∈H.map (·.2),(0:Int)<=r/\r<(k:Int)
 shut:∃S:List Int,dL C H S/\(∀c∈S,0<=c/\c<8)/\∀i:Nat,i<k->(i:Int)∈H.map (·.2)\/∀c∈df C (i:Nat),c∈S
theorem mV{C:List (List Int)}(hC:∀r,∀c∈df C r,0<=c/\c<8):∀k:Nat,lA C k (hd C k)
 | 0=>⟨⟨.nil,.nil,fun p hp=>(by cases hp)⟩,fun r hr=>(by cases hr),[],fun c hc=>(by cases hc),fun c hc=>(by cases hc),fun i hi=>by omega⟩
 | k+1=>by
  have ih:=mV hC k;obtain⟨S,s1,s2,s3⟩:=ih.shut;have nk:((k:Nat):Int)∉(hd C k).map (·.2):=fun z=>by have:=ih.rows _ z;omega
  unfold hd;cases hq:tk C 9 (hd C k) (k:Nat) []with
  | mk b w =>
   obtain⟨H1,T1⟩:=w;dsimp only;obtain⟨_,k2,k3⟩:=yT ⟨ih.mt.keys,ih.mt.edge⟩ hq;cases b with
   | false =>
    have e:=k2 rfl;obtain⟨_,_,_,j4,j5,j6⟩:=sZ hC (T:=[]) .nil (fun c hc=>by cases hc) (by decide) hq;rw[e];refine⟨ih.mt,fun r hr=>by have:=ih.rows r hr;omega,S++T1,fun c hc=> ?_,fun c hc=> ?_,fun i hi=> ?_⟩
    ·rcases EL.mp hc with z|z
     ·obtain⟨r,h1,h2⟩:=s1 c z
      exact⟨r,h1,fun d hd=>EH _ (h2 d hd)⟩
     ·rcases j6 c z with y|⟨q,h1,h2⟩
      ·cases y
      ·exact⟨q,h1,fun d hd=>EM _ (h2 d hd)⟩
    ·rcases EL.mp hc with z|z
     ·exact s2 c z
     ·exact j4 c z
    ·by_cases hik:i<k
     ·rcases s3 i hik with z|z
      ·exact .inl z
      ·exact .inr fun c hc=>EH _ (z c hc)
     ·have:i=k:=by omega
      subst this;exact .inr fun c hc=>EM _ (j5 c hc)
   | true =>
    have w:=k3 rfl;have so:=sY s1 hq;refine⟨w.mt ih.mt nk,fun r hr=> ?_,S,fun c hc=> ?_,s2,fun i hi=> ?_⟩
    ·rcases D8.mp (w.rows.mem_iff.mp hr)with z|z
     ·omega
     ·have:=ih.rows r z
      omega
    ·obtain⟨r,h1,h2⟩:=s1 c hc
     exact⟨r,by rw[so c hc];exact h1,h2⟩
    ·by_cases hik:i<k
     ·rcases s3 i hik with z|z
      ·exact .inl (w.rows.mem_iff.mpr (Dq _ z))
      ·exact .inr z
     ·have:i=k:=by omega
      subst this;exact .inl (w.rows.mem_iff.mpr Ds)
noncomputable def gZ:List PV->Option (List (List Int))
 | []=>some []
 | .lst xs::r=>(aP xs).bind fun ns=>(gZ r).map (ns::·)
 | _::_=>none
noncomputable def jC(C:List (List Int)):List PV:=C.map fun ns=>PV.lst (ns.map PV.int)
noncomputable def eS(C:List (List Int)):Bool:=decide (C.length<=8)&&C.all fun ns=>decide (ns.length<=100)&&ns.all fun c=>decide (0<=c)&&decide (c<8)
noncomputable def mU:List PV->Option PV
 | [.lst cs]=>(gZ cs).bind fun C=>if eS C=true then some (dP (hd C C.length))else none
 | _=>none
theorem jl:∀{cs:List PV}{C:List (List Int)},gZ cs=some C->cs=jC C
 | [],C,h=>by cases h;rfl
 | x::r,C,h=>by
  cases x with
  | lst xs =>
   have h:((aP xs).bind fun ns=>(gZ r).map (ns::·))=some C:=h;cases e1:aP xs with
   | none=>rw[e1]at h;cases h
   | some ns =>
    rw[e1]at h;cases e2:gZ r with
    | none=>rw[e2]at h;cases h
    | some D =>
     rw[e2]at h;cases h;rw[eM e1,jl e2];rfl
  | _=>cases h
theorem jm:∀C:List (List Int),gZ (jC C)=some C
 | []=>rfl
 | ns::C=>by
  show((aP (ns.map PV.int)).bind fun ns=>(gZ (jC C)).map (ns::·))=_;rw[bT,jm C];rfl
theorem eR{C:List (List Int)}(h:eS C=true):C.length<=8/\(∀ns∈C,ns.length<=100)/\∀r,∀c∈df C r,0<=c/\c<8:=by
 unfold eS at h;rw[Du,FI,EG]at h;refine⟨h.1,fun ns hn=> ?_,fun r c hc=> ?_⟩
 ·have:=h.2 ns hn
  rw[Du,FI]at this;exact this.1
 ·unfold df at hc
  rw[Dt]at hc;cases e:C[r.toNat]? with
  | none=>rw[e]at hc;cases hc
  | some ns =>
   rw[e]at hc;have:=h.2 ns (EE e);rw[Du,EG]at this;have:=this.2 c hc;rw[Du,FI,FI]at this;exact this
noncomputable def Au(H:aL)(c:Int):Int:=(af H c).getD 0
noncomputable def fH(n:Nat):List Int:=(List.range n).map fun i:Nat=>(i:Int)
theorem jb{n:Nat}{x:Int}:x∈fH n↔0<=x/\x<n:=by
 unfold fH;rw[Dv]
 constructor
 ·rintro⟨i,hi,rfl⟩
  have:=Eb.mp hi;omega
 ·rintro⟨h1,h2⟩
  exact⟨x.toNat,Eb.mpr (by omega),by omega⟩
theorem mG(n:Nat):(fH n).Nodup:=by
 unfold fH List.Nodup;rw[Fk];exact List.nodup_range.imp fun h e=>h (by omega)
noncomputable def gg(n:Nat)(l:List Int):List Int:=(fH n).filter fun x=> !l.contains x
theorem bn{n:Nat}{l:List Int}{x:Int}:x∈gg n l↔(0<=x/\x<n)/\x∉l:=by
 unfold gg;rw[EW,jb];simp
theorem n9(n:Nat)(l:List Int):(gg n l).Nodup:=(mG n).sublist FZ
theorem yZ{l m:List Int}(h1:l.Nodup)(h2:m.Nodup)(h:∀x,x∈l↔x∈m):l.Perm m:=(List.perm_ext_iff_of_nodup h1 h2).mpr fun x=>h x
theorem wA{H:aL}(nd:(H.map (·.2)).Nodup){p q:Int×Int}(hp:p∈H)(hq:q∈H)(e:p.2=q.2):p=q:=by
 induction H with
 | nil=>cases hp
 | cons x H ih =>
  rw[D2,EO]at nd
  rcases D8.mp hp with e1|hp1
  ·rcases D8.mp hq with e2|hq1
   ·rw[e1,e2]
   ·exact absurd (show x.2∈H.map (·.2)from Dv.mpr ⟨q,hq1,by rw[<- e,e1]⟩) nd.1
  ·rcases D8.mp hq with e2|hq1
   ·exact absurd (show x.2∈H.map (·.2)from Dv.mpr ⟨p,hp1,by rw[e,e2]⟩) nd.1
   ·exact ih nd.2 hp1 hq1
theorem iZ{α:Type}(f:α->Bool):∀l:List α,(l.filter f).length+(l.filter fun x=> !f x).length=l.length
 | []=>rfl
 | x::l=>by
  have:=iZ f l;cases h:f x with
  | true=>rw[List.filter_cons_of_pos h,List.filter_cons_of_neg (by rw[h];exact Dy),ED,ED];omega
  | false=>rw[List.filter_cons_of_neg (by rw[h];exact Dy),List.filter_cons_of_pos (by rw[h];rfl),ED,ED];omega
noncomputable def Ba(C:List (List Int))(H:aL)(n:Nat)(S:List Int):Prop:=dL C H S/\∀i:Nat,i<n->(i:Int)∈H.map (·.2)\/∀c∈df C (i:Nat),c∈S
structure nK(C:List (List Int))(H:aL)(n:Nat)(R Q:List Int)(k:Nat):Prop where
 shape:R=gg n (H.map (·.2))++Q.map (Au H)
 nod:Q.Nodup
 sub:∀S,Ba C H n S->∀c∈Q,c∈S
 done:∀j,j<k->∀r,R[j]? =some r->∀c∈df C r,c∈Q
theorem kY{H:aL}{c:Int}(h:c∈H.map (·.1)):af H c=some (Au H c):=by
 unfold Au;cases e:af H c with
 | none=>exact absurd h (dq.mp e)
 | some r=>rfl
theorem tE{C:List (List Int)}{H:aL}{n:Nat}:nK C H n (gg n (H.map (·.2))) [] 0 :=
 ⟨by rw[FK,Ey],.nil,fun S _ c hc=>(by cases hc),fun j hj=>by omega⟩
section
variable{C:List (List Int)}{H:aL}{n k:Nat}{R Q:List Int}
theorem yX(h:nK C H n R Q k){S:List Int}(hS:Ba C H n S){r c:Int}(hr:r∈R)(hc:c∈df C r):c∈S:=by
 rw[h.shape]at hr
 rcases EL.mp hr with z|z
 ·obtain⟨⟨h1,h2⟩,h3⟩:=bn.mp z
  have:=hS.2 r.toNat (by omega);rw[show((r.toNat:Nat):Int)=r by omega]at this;exact(this.resolve_left h3) c hc
 ·obtain⟨d,hd,rfl⟩:=Dv.mp z
  obtain⟨q,e,h2⟩:=hS.1 d (h.sub S hS d hd);unfold Au at hc;rw[e]at hc;exact h2 c hc
theorem jP{S:List Int}(hS:Ba C H n S){c:Int}(hc:c∈S):c∈H.map (·.1):=by
 obtain⟨r,e,_⟩:=hS.1 c hc;exact Dv.mpr ⟨_,cu e,rfl⟩
theorem wQ(ok:lA C n H)(h:nK C H n R Q k){r c:Int}(hr:r∈R)(hc:c∈df C r):c∈H.map (·.1):=by
 obtain⟨S,s1,s2,s3⟩:=ok.shut;exact jP ⟨s1,s3⟩ (yX h ⟨s1,s3⟩ hr hc)
theorem hU(ok:lA C n H)(h:nK C H n R Q k){c:Int}(hc:c∈Q):c∈H.map (·.1):=by
 obtain⟨S,s1,s2,s3⟩:=ok.shut;exact jP ⟨s1,s3⟩ (h.sub S ⟨s1,s3⟩ c hc)
theorem wR(ok:lA C n H)(h:nK C H n R Q k){c:Int}(hc:c∈Q):0<=c/\c<8:=by
 obtain⟨S,s1,s2,s3⟩:=ok.shut;exact s2 c (h.sub S ⟨s1,s3⟩ c hc)
theorem zi(h:nK C H n R Q k){r c:Int}(hk:k<=R.length)(hr:r∈R)(hc:c∈df C r)(hQ:c∉Q):nK C H n (R++[Au H c]) (Q++[c]) k:=by
 refine⟨?_,?_,fun S hS d hd=> ?_,fun j hj r' e d hd=> ?_⟩
 ·rw[h.shape,EF,List.append_assoc]
  rfl
 ·rw[Er]
  refine⟨h.nod,by simp,fun a ha x hx z=> ?_⟩;rw[Ee]at hx;subst hx z;exact hQ ha
 ·rcases EL.mp hd with z|z
  ·exact h.sub S hS d z
  ·rw[Ee.mp z]
   exact yX h hS hr hc
 ·rw[Eo (by omega)]at e
  exact EH _ (h.done j hj r' e d hd)
theorem wP(h:nK C H n R Q k){r:Int}(hk:R[k]? =some r)(hc:∀c∈df C r,c∈Q):nK C H n R Q (k+1):=by
 refine⟨h.shape,h.nod,h.sub,fun j hj r' e d hd=> ?_⟩
 by_cases z:j<k
 ·exact h.done j z r' e d hd
 ·have:j=k:=by omega
  subst this;rw[hk]at e;cases e;exact hc d hd
theorem kJ(ok:lA C n H)(h:nK C H n R Q k):R.length<=n+8:=by
 have h1:(gg n (H.map (·.2))).length<=n:=by
  refine Eh (FT _ _) ?_;unfold fH;rw[Dp,EZ];exact Dx _
 have h2:Q.length<=8:=cX (U:=[0,1,2,3,4,5,6,7]) h.nod fun x hx=>by
  obtain⟨a,b⟩:=wR ok h hx;simp only[D8];omega
 rw[h.shape,EC,Dp];omega
theorem lw(ok:lA C n H)(h:nK C H n R Q R.length):(gg n R).length+Q.length=H.length:=by
 have hk:=ok.mt.keys;have hrw:=ok.mt.rows;have e1:(H.filter fun p=>Q.contains p.1).length=Q.length:=by
  have:((H.filter fun p=>Q.contains p.1).map (·.1)).Perm Q:=by
   refine yZ (hk.sublist ((FZ).map _)) h.nod fun x=> ?_
   constructor
   ·intro hx
    obtain⟨p,hp,rfl⟩:=Dv.mp hx;exact EK.mp (EW.mp hp).2
   ·intro hx
    obtain⟨p,hp,rfl⟩:=Dv.mp (hU ok h hx);exact Dv.mpr ⟨p,EW.mpr ⟨hp,EK.mpr hx⟩,rfl⟩
  rw[<- this.length_eq,Dp]
 have e2:(H.filter fun p=> !Q.contains p.1).length=(gg n R).length:=by
  have:((H.filter fun p=> !Q.contains p.1).map (·.2)).Perm (gg n R):=by
   refine yZ (hrw.sublist ((FZ).map _)) (n9 _ _) fun x=> ?_
   constructor
   ·intro hx
    obtain⟨p,hp,rfl⟩:=Dv.mp hx;obtain⟨h1,h2⟩:=EW.mp hp;refine bn.mpr ⟨ok.rows _ (Dv.mpr ⟨p,h1,rfl⟩),fun z=> ?_⟩;rw[h.shape]at z
    rcases EL.mp z with z|z
    ·exact(bn.mp z).2 (Dv.mpr ⟨p,h1,rfl⟩)
    ·obtain⟨d,hd,e⟩:=Dv.mp z
     have g:=cu (kY (hU ok h hd));rw[e]at g;have:=wA hrw h1 g rfl;have:p.1=d:=Ek Prod.fst this;rw[this,EK.mpr hd]at h2;cases h2
   ·intro hx
    obtain⟨⟨a,b⟩,c⟩:=bn.mp hx;have hm:x∈H.map (·.2):=by
     by_cases z:x∈H.map (·.2)
     ·exact z
     ·exact absurd (by rw[h.shape];exact EH _ (bn.mpr ⟨⟨a,b⟩,z⟩)) c
    obtain⟨p,hp,rfl⟩:=Dv.mp hm;refine Dv.mpr ⟨p,EW.mpr ⟨hp,?_⟩,rfl⟩;cases z:Q.contains p.1 with
    | false=>rfl
    | true =>
     refine absurd ?_ c;rw[h.shape];refine EM _ (Dv.mpr ⟨p.1,EK.mp z,?_⟩);unfold Au;rw[xV hk (r:=p.2) hp];rfl
  rw[<- this.length_eq,Dp]
 have e3:(H.filter fun p=>Q.contains p.1).length+(H.filter fun p=> !Q.contains p.1).length=H.length:=by
  exact iZ (fun p=>Q.contains p.1) H
 omega
theorem ux{p:List (Int×Int)}{K Q:List Int}(h1:(p.map (·.1)).Nodup)(h2:(p.map (·.2)).Nodup)(hc:∀x∈p,x.1∈K\/x.2∈Q):p.length<=K.length+Q.length:=by
 have e:(p.filter fun x=>K.contains x.1).length+(p.filter fun x=> !K.contains x.1).length=p.length:=by
  exact iZ (fun x=>K.contains x.1) p
 have a1:(p.filter fun x=>K.contains x.1).length<=K.length:=by
  have:=cX (T:=(p.filter fun x=>K.contains x.1).map (·.1)) (U:=K) (h1.sublist ((FZ).map _)) fun y hy=>by
   obtain⟨x,hx,rfl⟩:=Dv.mp hy;exact EK.mp (EW.mp hx).2
  rw[Dp]at this;exact this
 have a2:(p.filter fun x=> !K.contains x.1).length<=Q.length:=by
  have:=cX (T:=(p.filter fun x=> !K.contains x.1).map (·.2)) (U:=Q) (h2.sublist ((FZ).map _)) fun y hy=>by
   obtain⟨x,hx,rfl⟩:=Dv.mp hy;obtain⟨x1,x2⟩:=EW.mp hx
   rcases hc x x1 with z|z
   ·rw[EK.mpr z]at x2
    cases x2
   ·exact z
  rw[Dp]at this;exact this
 omega
end
theorem qJ{l:List Nat}{f:Nat->Int}(h:0<cU l f):∃c∈l,0<f c:=by
 induction l with
 | nil=>rw[dR]at h;omega
 | cons x l ih =>
  rw[bS]at h
  by_cases e:0<f x
  ·exact⟨x,Ds,e⟩
  ·obtain⟨c,h1,h2⟩:=ih (by omega)
   exact⟨c,Dq _ h1,h2⟩
theorem sh{l:List Nat}{f:Nat->Int}(hn:∀c,0<=f c){c:Nat}(hc:c∈l)(h:0<f c):0<cU l f:=by
 induction l with
 | nil=>cases hc
 | cons x l ih =>
  rw[bS]
  rcases D8.mp hc with e|e
  ·subst e
   have:=bV (l:=l) (f:=f) fun x _=>hn x;omega
  ·have:=ih e
   have:=hn x;omega
noncomputable def InR(rs:List (List Nat))(T:List Nat)(i0:Nat)(x:Int×Int):Prop:=∃i c:Nat,x=(((i0+i:Nat):Int),(c:Int))/\c∈rs.getD i []/\c∉T
theorem xo(rs:List (List Nat)):∀(T:List Nat)(k i0:Nat),0<cnt rs T k->∃p:List (Int×Int),p.length=k/\(p.map (·.1)).Nodup/\(p.map (·.2)).Nodup/\∀x∈p,InR rs T i0 x:=by
 induction rs with
 | nil =>
  intro T k i0 h;cases k with
  | zero=>exact⟨[],rfl,.nil,.nil,fun x hx=>nomatch hx⟩
  | succ k=>rw[cnt]at h;omega
 | cons r rs ih =>
  intro T k i0 h;cases k with
  | zero=>exact⟨[],rfl,.nil,.nil,fun x hx=>nomatch hx⟩
  | succ k =>
   rw[cnt]at h
   by_cases h1:0<cnt rs T (k+1)
   ·obtain⟨p,a1,a2,a3,a4⟩:=ih T (k+1) (i0+1) h1
    refine⟨p,a1,a2,a3,fun x hx=> ?_⟩;obtain⟨i,c,e,b1,b2⟩:=a4 x hx;exact⟨i+1,c,by rw[e,show i0+1+i=i0+(i+1)by omega],b1,b2⟩
   ·obtain⟨c,hc,hp⟩:=qJ (l:=r.filter fun c=> !T.contains c) (f:=fun c=>cnt rs (c::T) k) (by omega)
    obtain⟨c1,c2⟩:=EW.mp hc;have c2:c∉T:=fun z=>by rw[EK.mpr z]at c2;cases c2
    obtain⟨p,a1,a2,a3,a4⟩:=ih (c::T) k (i0+1) hp;refine⟨((i0:Int),(c:Int))::p,by rw[ED,a1],?_,?_,fun x hx=> ?_⟩
    ·rw[D2,EO]
     refine⟨fun z=> ?_,a2⟩;obtain⟨x,hx,e⟩:=Dv.mp z;obtain⟨i,d,rfl,_,_⟩:=a4 x hx;have e:((i0+1+i:Nat):Int)=(i0:Int):=e;omega
    ·rw[D2,EO]
     refine⟨fun z=> ?_,a3⟩;obtain⟨x,hx,e⟩:=Dv.mp z;obtain⟨i,d,rfl,_,b2⟩:=a4 x hx;have e:((d:Nat):Int)=(c:Int):=e;exact b2 (by rw[show d=c by omega];exact Ds)
    ·rcases D8.mp hx with e|e
     ·exact⟨0,c,e,c1,c2⟩
     ·obtain⟨i,d,e2,b1,b2⟩:=a4 x e
      exact⟨i+1,d,by rw[e2,show i0+1+i=i0+(i+1)by omega],b1,fun z=>b2 (Dq _ z)⟩
theorem xT(rs:List (List Nat)):∀(T:List Nat)(i0:Nat)(p:List (Int×Int)),(p.map (·.1)).Nodup->(p.map (·.2)).Nodup->(∀x∈p,InR rs T i0 x)->0<cnt rs T p.length:=by
 induction rs with
 | nil =>
  intro T i0 p _ _ h;cases p with
  | nil=>show 0<(1:Int);decide
  | cons x p =>
   obtain⟨i,c,_,b,_⟩:=h x Ds;cases b
 | cons r rs ih =>
  intro T i0 p h1 h2 h
  by_cases hx:∃x∈p,x.1=(i0:Int)
  ·obtain⟨x,hxp,ex⟩:=hx
   obtain⟨l1,l2,rfl⟩:=List.append_of_mem hxp;have q1:((l1++x::l2).map (·.1)).Perm (x.1::(l1++l2).map (·.1)):=(List.perm_middle (a:=x) (l₁:=l1) (l₂:=l2)).map _;have q2:((l1++x::l2).map (·.2)).Perm (x.2::(l1++l2).map (·.2)):=(List.perm_middle (a:=x) (l₁:=l1) (l₂:=l2)).map _;have n1:=EO.mp (q1.nodup_iff.mp h1);have n2:=EO.mp (q2.nodup_iff.mp h2);obtain⟨i,c,e,b1,b2⟩:=h x hxp;have i0' :i=0:=by
    rw[e]at ex;have ex:((i0+i:Nat):Int)=(i0:Int):=ex;omega
   subst i0';have hin:∀y∈l1++l2,InR rs (c::T) (i0+1) y:=by
    intro y hy;have hy' :y∈l1++x::l2:=by
     rcases EL.mp hy with z|z
     ·exact EH _ z
     ·exact EM _ (Dq _ z)
    obtain⟨j,d,e2,d1,d2⟩:=h y hy';have hj:j≠0:=fun z=>n1.1 (Dv.mpr ⟨y,hy,by rw[e2,z,e]⟩);have hd:d≠c:=fun z=>n2.1 (Dv.mpr ⟨y,hy,by rw[e2,z,e]⟩);obtain⟨j',rfl⟩:∃j',j=j' +1:=⟨j-1,by omega⟩;refine⟨j',d,by rw[e2,show i0+1+j' =i0+(j' +1)by omega],d1,fun z=> ?_⟩
    rcases D8.mp z with y|y
    ·exact hd y
    ·exact d2 y
   have hp:=ih (c::T) (i0+1) (l1++l2) n1.2 n2.2 hin;have el:(l1++x::l2).length=(l1++l2).length+1:=by rw[EC,EC,ED];omega
   rw[el,cnt];have g1:=ag rs T ((l1++l2).length+1);have g2:=sh (l:=r.filter fun c=> !T.contains c) (f:=fun c=>cnt rs (c::T) (l1++l2).length) (fun c=>ag _ _ _) (c:=c) (EW.mpr ⟨b1,by
    cases hz:T.contains c with
    | true=>exact absurd (EK.mp hz) b2
    | false=>rfl⟩) hp
   omega
  ·have hin:∀y∈p,InR rs T (i0+1) y:=by
    intro y hy;obtain⟨j,d,e2,d1,d2⟩:=h y hy;have hj:j≠0:=fun z=>hx ⟨y,hy,by rw[e2,z];rfl⟩;obtain⟨j',rfl⟩:∃j',j=j' +1:=⟨j-1,by omega⟩;exact⟨j',d,by rw[e2,show i0+1+j' =i0+(j' +1)by omega],d1,d2⟩
   have hp:=ih T (i0+1) p h1 h2 hin;cases hl:p.length with
   | zero=>rw[fS];decide
   | succ m =>
    rw[hl]at hp;rw[cnt];have g2:=bV (l:=r.filter fun c=> !T.contains c) (f:=fun c=>cnt rs (c::T) m) fun c _=>ag _ _ _;omega
theorem wZ{f:Nat->Int}{N m:Nat}(hm:m<N)(hp:∀i,i<=m->0<f i)(hz:∀i,m<i->¬0<f i):(((List.range N).map f).filter fun n=>decide (0<n)).length=m+1:=by
 obtain⟨d,rfl⟩:∃d,N=(m+1)+d:=⟨N-(m+1),by omega⟩;rw[List.range_add,EF,List.filter_append,List.filter_eq_self.mpr,List.filter_eq_nil_iff.mpr,Ey,Dp,EZ]
 ·intro x hx
  rw[EU]at hx;obtain⟨i,_,rfl⟩:=Dv.mp hx;rw[FI];exact hz (m+1+i) (by omega)
 ·intro x hx
  obtain⟨i,hi,rfl⟩:=Dv.mp hx;rw[Eb]at hi;exact EX (hp _ (by omega))
end IR
namespace XE
open PySem
section
variable{M:Model}{A:Around}{E:Value->Shared->Prop}{s:Shared}{base:Heap}{env:Env}{outer:List Env}{L e T:Addr}{cls fl:Value}{dd:Option Addr}{Q:Unit->Shared->Prop}{oe:Obj}{vs:Array Value}
end
end XE
namespace XE
open PySem PySem.W PyProof.Rows
section
variable{prog:Program}{w:World}{A:Around}{E:Value->Shared->Prop}{s:Shared}{K:Frag}{e C:Addr}{ox:Obj}
end
end XE
namespace L2.XN
open PySem PySem.Spec PyProof.Rows L2 XE
section
variable{P:Program}{w:World}{H H' :Hp}{h h' h2:Heap}{a:Addr}{o:HO}{fs ns:List Addr}
end
section
variable{P:Program}{w:World}{K:W.Frag}{mg:Str->Option Value}{base:Heap}{N:List Str}{qual:Str}{scope:Scope}{f C:Addr}{cd:Value}{A:Around}{outer:List Env}{s s1:Shared}{H H1:Hp}{E:XK}
 {pins:List (Addr×Obj)} {σ:St}
end
end L2.XN
namespace L2.XN
open PySem PySem.Spec PyProof.Rows L2 XE
section
variable{X:Cx}{pins:List (Addr×Obj)}{σ:St}{H:Hp}{s:Shared}{W:Value->Shared->Prop}{A:Around}{cm:Bool}
noncomputable abbrev Cm(X:Cx)(pn:List (Addr×Obj))(W:Value->Shared->Prop):Cx:={X with pn:=pn,xe:=W}
theorem pinned(I:Inv X pins σ H s):Inv (Cm X (X.pn++pins) W) [] σ H s :=
 ⟨⟨I.ok.mod,I.ok.kind,I.ok.glob,I.ok.blt,I.ok.above,I.ok.inj,I.ok.has,I.ok.cab,I.ok.hd,I.ok.frames,I.ok.stk,I.ok.exf,I.ok.bs,I.ok.bsz,I.ok.noex,I.ok.exfs,I.ok.funs,I.ok.frf⟩,I.os,I.bare,I.base,I.loc,I.cell,I.free,I.freeC,
  fun p hp=>I.pin p (by rw[Ey]at hp;exact hp),I.hok,I.len⟩
theorem unpinned{p2:List (Addr×Obj)}(ok:X.Ok)(I:Inv (Cm X (X.pn++pins) W) p2 σ H s):Inv X pins σ H s :=
 ⟨ok,I.os,I.bare,I.base,I.loc,I.cell,I.free,I.freeC,fun p hp=>I.pin p (EH _ hp),I.hok,I.len⟩
end
end L2.XN
namespace L2.XN
open PySem PySem.Spec PyProof.Rows L2 XE
section
variable{K:W.Frag}{mg:Str->Option Value}{x:Str}{C D:Addr}{b:Bool}
end
section
variable{X:Cx}{e C:Addr}{dd:Option Addr}{oe:Obj}{c:V}{u:Value}{b:Bool}
end
end L2.XN
namespace IR
open PySem PySem.Spec PyProof.Rows L2 L2.XN
section
variable(cd:Nat->List PV->Option PV)(xd:Nat->List PV->Bool)(fu:Nat)(cn:Str)
end
section
variable{cd:Nat->List PV->Option PV}{xd:Nat->List PV->Bool}{fu:Nat}{cn:Str}{C:Addr}{E:XK}{X:Cx}{ct:Ct}{Hi:Hp}{τ:En}
end
section
variable{cd:Nat->List PV->Option PV}{xd:Nat->List PV->Bool}{fu:Nat}{cn:Str}{τ τ1:En}{s:IS}{ss:rS}
end
section
variable{K:W.Frag}{mg:Str->Option Value}{P:Nat->Option FD}{F:List (Str×Nat)}{G:List (Str×PV)}{B:List Str}{p:Program}{w:World}{base:Heap}{k:Nat}
variable(hG:∀x v,G.lookup x=some v->∃u w,mg x=some u/\RelV w u/\∀Hi n H,Rp K Hi n v H w)(hB:∀x,B.contains x=true->mg x=none)
include hG hB
end
section
variable{K:W.Frag}{mg:Str->Option Value}{P:Nat->Option FD}{F0:List (Str×Nat)}{G0:List (Str×PV)}{B0:List Str}
end
end IR
namespace Law
open PySem PySem.Spec PyProof.Rows L2 IR
noncomputable def j9(i:Nat):Stmt:=PySem.Challenge.pw_unstruck_k43_whole_no_placing_has_more.main.body.getD i (.Pass ⟨0,0,0,0⟩)
noncomputable def F:List (Str×Nat):=[("columns_in",109),("column_of",13),("laid_over",14),("mirrored",15),("takes_column",110),("holders_of",111),("others",112),("reached",113),("most_of",114),("bits_of",46),("with_line",47),("row_of",48),("_law_cell",4),("_law_mixed",5),("_law_deep",20),("_law_board",6),("_law_cells",7),("_law_placing",124),("law",125)]
noncomputable def G:List (Str×PV):=[("CELL",(.str "x"))]
noncomputable def B:List Str:=["len","int","list","tuple","range","enumerate","sorted","sum","dict"]
noncomputable abbrev n4:Stmt:=j9 2
noncomputable abbrev Df:List Str:=["line"]
noncomputable abbrev zX:Stmt:=j9 3
noncomputable abbrev N13:List Str:=["board","column"]
noncomputable abbrev zW:Stmt:=j9 4
noncomputable abbrev N14:List Str:=["board"]
noncomputable abbrev zV:Stmt:=j9 5
noncomputable abbrev N15:List Str:=["board"]
noncomputable abbrev ll:Stmt:=j9 7
noncomputable abbrev N110:List Str:=["choices","holders","row","tried","column"]
noncomputable abbrev qQ:Stmt:=j9 8
noncomputable abbrev N111:List Str:=["choices","holders","row"]
noncomputable abbrev nz:Stmt:=j9 9
noncomputable abbrev De:List Str:=["size","numbers"]
noncomputable abbrev ny:Stmt:=j9 10
noncomputable abbrev Dd:List Str:=["choices","holders","rows","columns","place","row","column"]
noncomputable abbrev nw:Stmt:=j9 11
noncomputable abbrev Dc:List Str:=["board","choices","holders","placing","reach"]
noncomputable abbrev zT:Stmt:=j9 13
noncomputable abbrev N46:List Str:=["line","bits","bit","sign"]
noncomputable abbrev Bq:Stmt:=j9 14
noncomputable abbrev N47:List Str:=["levels","bits","after","size","level","above","taken","count","bit"]
noncomputable abbrev zS:Stmt:=j9 15
noncomputable abbrev N48:List Str:=["board","levels","line"]
noncomputable abbrev s4:Stmt:=j9 17
noncomputable abbrev N4:List Str:=["_law_script","_law_k"]
noncomputable abbrev s5:Stmt:=j9 18
noncomputable abbrev N5:List Str:=["_law_cell_here","_law_k","_law_number"]
noncomputable abbrev zU:Stmt:=j9 19
noncomputable abbrev N20:List Str:=["_law_cell_here","_law_number","_law_k"]
noncomputable abbrev s6:Stmt:=j9 20
noncomputable abbrev N6:List Str:=["_law_head","_law_cell_here","_law_most","_law_rows","_law_columns","_law_thick","_law_lines","_law_row","_law_signs","_law_column","_law_place","_law_one"]
noncomputable abbrev s7:Stmt:=j9 21
noncomputable abbrev N7:List Str:=["_law_board_here","_law_found","_law_row","_law_column"]
noncomputable abbrev nu:Stmt:=j9 22
noncomputable abbrev Db:List Str:=["_law_cells_here","_law_number","_law_size","_law_near","_law_found","_law_left","_law_at","_law_one"]
noncomputable abbrev i8:Stmt:=j9 23
noncomputable abbrev Da:List Str:=["_law_script","_law_board_here","_law_cells_here","_law_found","_law_most","_law_turned","_law_cell_here"]
noncomputable def BH:FD:=⟨1,1,
  (.cons (.ret [] (.lc2 (.var 0) (.enum (.var 0)) (.yes (.val (.cmp .Eq (.var 1) (.con (.str "x"))))) []))
  .nil)⟩
noncomputable def d13:FD:=⟨2,2,
  (.cons (.ret [] (.mth .join (.con (.str "")) (.cons (.lc (.ix (.var 0) (.var 1)) (.seq (.var 0)) .no [1]) .nil)))
  .nil)⟩
noncomputable def d14:FD:=⟨1,1,
  (.cons (.ret [] (.bf .tuple (.cons (.lc (.call 13 (.cons (.var 1) (.cons (.var 0) .nil))) (.rng (.cons (.bf .len (.cons (.ix (.var 0) (.con (.int 0))) .nil)) .nil)) .no [0]) .nil)))
  .nil)⟩
noncomputable def d15:FD:=⟨1,1,
  (.cons (.ret [0] (.bf .tuple (.cons (.lc (.rev (.var 0)) (.seq (.var 0)) .no []) .nil)))
  .nil)⟩
noncomputable def d110:FD:=⟨5,4,
  (.cons .never .nil)⟩
noncomputable def xk:FD:=⟨3,1,
  (.cons (.drop (.call 20011 (.cons (.con .non) .nil))) (.cons (.hand 1 mU) .nil))⟩
noncomputable def BG:FD:=⟨2,2,
  (.cons (.ret [] (.lc (.var 0) (.rng (.cons (.var 0) .nil)) (.yes (.val (.cmp .NotIn (.var 0) (.var 1)))) [1]))
  .nil)⟩
noncomputable def BF:FD:=⟨7,2,
  (.cons (.asg 2 true [] (.call 112 (.cons (.bf .len (.cons (.var 0) .nil)) (.cons (.bf .lvals (.cons (.var 1) .nil)) .nil))))
  (.cons (.asg 3 true [] (.lst .nil))
  (.cons (.asg 4 false [] (.con (.int 0)))
  (.cons (.whil (.val (.cmp .Lt (.var 4) (.bf .len (.cons (.var 2) .nil)))) (.cons (.asg 5 false [] (.ix (.var 2) (.var 4)))
  (.cons (.forr [6] true [] (.seq (.ix (.var 0) (.var 5))) (.cons (.ife (.val (.cmp .NotIn (.var 6) (.var 3))) (.cons (.app 3 [6] (.var 6))
  (.cons (.app 2 [] (.ix (.var 1) (.var 6)))
  .nil)) .nil)
  .nil))
  (.cons (.aug 4 .Add (.con (.int 1)))
  .nil))))
  (.cons (.ret [2,3] (.tup (.cons (.var 2) (.cons (.var 3) .nil))))
  .nil)))))⟩
noncomputable def BE:FD:=⟨5,1,
  (.cons (.asg 1 false [] (.lc (.call 109 (.cons (.var 0) .nil)) (.seq (.var 0)) .no []))
  (.cons (.asg 2 false [] (.call 111 (.cons (.var 1) .nil)))
  (.cons (.asg 3 false [] (.bf .tuple (.cons (.bf .sorted (.cons (.lcs (.var 2)) .nil)) .nil)))
  (.cons (.asg 4 false [] (.call 113 (.cons (.var 1) (.cons (.var 2) .nil))))
  (.cons (.ret [3] (.tup (.cons (.var 3) (.cons (.call 112 (.cons (.bf .len (.cons (.var 0) .nil)) (.cons (.ix (.var 4) (.con (.int 0))) .nil))) (.cons (.bf .sorted (.cons (.ix (.var 4) (.con (.int 1))) .nil)) .nil)))))
  .nil)))))⟩
noncomputable def d46:FD:=⟨4,1,
  (.cons (.asg 1 true [] (.lst .nil))
  (.cons (.asg 2 false [] (.con (.int 1)))
  (.cons (.forr [3] true [0] (.seq (.var 0)) (.cons (.ife (.val (.cmp .Eq (.var 3) (.con (.str "x")))) (.cons (.app 1 [2] (.var 2))
  .nil) .nil)
  (.cons (.asg 2 false [] (.bin .Mult (.var 2) (.con (.int 2))))
  .nil)))
  (.cons (.ret [1] (.var 1))
  .nil))))⟩
noncomputable def Bu:FD:=⟨9,2,
  (.cons (.hand 2 bG) .nil)⟩
noncomputable def d48:FD:=⟨3,1,
  (.cons (.asg 1 false [] (.lst (.cons (.dlit (.inl 0) (.con (.int 1))) .nil)))
  (.cons (.forr [2] true [0] (.seq (.var 0)) (.cons (.asg 1 false [] (.call 47 (.cons (.var 1) (.cons (.call 46 (.cons (.var 2) .nil)) .nil))))
  .nil))
  (.cons (.ret [1] (.lc (.bf .sumv (.cons (.var 0) .nil)) (.seq (.var 1)) (.yes (.val (.cmp .Gt (.bf .len (.cons (.var 0) .nil)) (.con (.int 0))))) []))
  .nil)))⟩
noncomputable def d4:FD:=⟨2,2,
  (.cons (.ife (.val (.cmp .Lt (.var 1) (.bf .len (.cons (.var 0) .nil)))) (.cons (.ret [] (.ix (.var 0) (.var 1)))
  .nil) .nil)
  (.cons (.ret [] (.con (.int 0)))
  .nil))⟩
noncomputable def d5:FD:=⟨3,2,
  (.cons (.asg 2 false [] (.bin .Mod (.bin .Add (.bin .Add (.bin .Mult (.bin .Mod (.var 0) (.con (.int 2147483647))) (.con (.int 39373))) (.bin .Mult (.bin .Mult (.con (.int 7877)) (.var 1)) (.var 1))) (.con (.int 60493))) (.con (.int 2147483647))))
  (.cons (.asg 2 false [] (.bin .Mod (.bin .Mult (.var 2) (.var 2)) (.con (.int 2147483629))))
  (.cons (.ret [2,1,2] (.bin .Mod (.bin .Mult (.bin .Add (.bin .Mult (.var 2) (.con (.int 48271))) (.var 1)) (.var 2)) (.con (.int 2147483587))))
  .nil)))⟩
noncomputable def d20:FD:=⟨3,1,
  (.cons (.ife (.val (.cmp .GtE (.var 0) (.bin .LShift (.con (.int 1)) (.con (.int 64))))) (.cons (.ret [0] (.bin .Sub (.var 0) (.bin .LShift (.con (.int 1)) (.con (.int 64)))))
  .nil) .nil)
  (.cons (.asg 1 false [] (.con (.int 0)))
  (.cons (.forr [2] true [] (.rng (.cons (.con (.int 8)) .nil)) (.cons (.asg 1 false [] (.bin .Add (.bin .Mult (.var 1) (.con (.int 2147483587))) (.call 5 (.cons (.var 0) (.cons (.bin .Add (.bin .Mult (.con (.int 7)) (.var 2)) (.con (.int 3))) .nil)))))
  .nil))
  (.cons (.ret [1] (.var 1))
  .nil))))⟩
noncomputable def d6:FD:=⟨12,3,
  (.cons (.asg 3 false [] (.bin .Add (.con (.int 1)) (.bin .Mod (.var 0) (.var 2))))
  (.cons (.asg 4 false [] (.bin .Add (.con (.int 1)) (.bin .Mod (.bin .FloorDiv (.var 0) (.con (.int 8))) (.var 2))))
  (.cons (.asg 5 false [] (.bin .Add (.con (.int 1)) (.bin .Mod (.bin .FloorDiv (.var 0) (.con (.int 64))) (.con (.int 8)))))
  (.cons (.asg 6 true [] (.lst .nil))
  (.cons (.forr [7] true [] (.rng (.cons (.var 3) .nil)) (.cons (.asg 8 false [] (.con (.str "")))
  (.cons (.forr [9] true [] (.rng (.cons (.var 4) .nil)) (.cons (.asg 10 false [] (.bin .Add (.bin .Mult (.var 4) (.var 7)) (.var 9)))
  (.cons (.asg 11 false [] (.cmp .Eq (.bin .Mod (.bin .FloorDiv (.var 1) (.bin .LShift (.con (.int 1)) (.var 10))) (.con (.int 2))) (.con (.int 1))))
  (.cons (.ife (.val (.cmp .Lt (.var 1) (.bin .LShift (.con (.int 1)) (.con (.int 64))))) (.cons (.asg 11 false [] (.cmp .Lt (.bin .Mod (.call 5 (.cons (.var 1) (.cons (.var 10) .nil))) (.con (.int 8))) (.var 5)))
  .nil) .nil)
  (.cons (.asg 8 false [8] (.bin .Add (.var 8) (.ix (.lst (.cons (.con (.str ".")) (.cons (.con (.str "x")) .nil))) (.bf .int (.cons (.var 11) .nil)))))
  .nil)))))
  (.cons (.app 6 [8] (.var 8))
  .nil))))
  (.cons (.ret [6] (.bf .tuple (.cons (.var 6) .nil)))
  .nil))))))⟩
noncomputable def d7:FD:=⟨4,1,
  (.cons (.asg 1 true [] (.lst .nil))
  (.cons (.forr [2] true [] (.rng (.cons (.bf .len (.cons (.var 0) .nil)) .nil)) (.cons (.forr [3] true [] (.rng (.cons (.bf .len (.cons (.ix (.var 0) (.con (.int 0))) .nil)) .nil)) (.cons (.ife (.val (.cmp .Eq (.ix (.ix (.var 0) (.var 2)) (.var 3)) (.con (.str "x")))) (.cons (.app 1 [2,3] (.tup (.cons (.var 2) (.cons (.var 3) .nil))))
  .nil) .nil)
  .nil))
  .nil))
  (.cons (.ret [1] (.var 1))
  .nil)))⟩
noncomputable def BD:FD:=⟨8,2,
  (.cons (.asg 2 false [] (.bin .Mod (.bin .FloorDiv (.var 1) (.con (.int 2))) (.con (.int 9))))
  (.cons (.asg 3 false [] (.bin .Mod (.var 1) (.con (.int 2))))
  (.cons (.asg 1 false [] (.bin .FloorDiv (.var 1) (.con (.int 18))))
  (.cons (.asg 4 true [] (.lst .nil))
  (.cons (.asg 5 false [0] (.var 0))
  (.cons (.whil (.and (.val (.cmp .NotEq (.var 5) (.lst .nil))) (.val (.cmp .Lt (.bf .len (.cons (.var 4) .nil)) (.var 2)))) (.cons (.asg 6 false [] (.bin .Mod (.var 1) (.bf .len (.cons (.var 5) .nil))))
  (.cons (.ife (.val (.cmp .Eq (.var 3) (.con (.int 1)))) (.cons (.asg 6 false [] (.ix (.lst (.cons (.con (.int 0)) (.cons (.bin .Sub (.bf .len (.cons (.var 5) .nil)) (.con (.int 1))) .nil))) (.bin .Mod (.var 1) (.con (.int 2)))))
  .nil) .nil)
  (.cons (.asg 7 false [] (.ix (.var 5) (.var 6)))
  (.cons (.asg 1 false [] (.bin .FloorDiv (.var 1) (.con (.int 64))))
  (.cons (.app 4 [7] (.var 7))
  (.cons (.asg 5 false [] (.lc (.var 0) (.seq (.var 5)) (.yes (.and (.val (.cmp .NotEq (.ix (.var 0) (.con (.int 0))) (.ix (.var 1) (.con (.int 0))))) (.val (.cmp .NotEq (.ix (.var 0) (.con (.int 1))) (.ix (.var 1) (.con (.int 1))))))) [7]))
  .nil)))))))
  (.cons (.ret [4] (.var 4))
  .nil)))))))⟩
noncomputable def BC:FD:=⟨7,1,
  (.cons (.asg 1 false [] (.call 6 (.cons (.call 4 (.cons (.var 0) (.cons (.con (.int 0)) .nil))) (.cons (.call 4 (.cons (.var 0) (.cons (.con (.int 1)) .nil))) (.cons (.con (.int 8)) .nil)))))
  (.cons (.asg 2 false [] (.call 7 (.cons (.var 1) .nil)))
  (.cons (.asg 3 false [] (.call 114 (.cons (.var 1) .nil)))
  (.cons (.asg 4 false [] (.bf .len (.cons (.ix (.var 3) (.con (.int 0))) .nil)))
  (.cons (.ife (.or (.val (.cmp .NotEq (.bin .Add (.bf .len (.cons (.ix (.var 3) (.con (.int 1))) .nil)) (.bf .len (.cons (.ix (.var 3) (.con (.int 2))) .nil))) (.var 4))) (.val (.cmp .NotEq (.var 4) (.bin .Sub (.bf .len (.cons (.call 48 (.cons (.var 1) .nil)) .nil)) (.con (.int 1)))))) (.cons (.ret [] (.con (.bl false)))
  .nil) .nil)
  (.cons (.forr [5] true [] (.seq (.lst (.cons (.call 14 (.cons (.var 1) .nil)) (.cons (.call 15 (.cons (.var 1) .nil)) .nil)))) (.cons (.ife (.val (.cmp .NotEq (.bf .len (.cons (.ix (.call 114 (.cons (.var 5) .nil)) (.con (.int 0))) .nil)) (.var 4))) (.cons (.ret [] (.con (.bl false)))
  .nil) .nil)
  .nil))
  (.cons (.forr [6] true [] (.seq (.sl (.var 0) (.yes (.con (.int 2))) (.yes (.con (.int 63))))) (.cons (.ife (.val (.cmp .Gt (.bf .len (.cons (.call 124 (.cons (.var 2) (.cons (.call 20 (.cons (.var 6) .nil)) .nil))) .nil)) (.var 4))) (.cons (.ret [] (.con (.bl false)))
  .nil) .nil)
  .nil))
  (.cons (.ret [] (.con (.bl true)))
  .nil))))))))⟩
noncomputable def P:Nat->Option FD:=fun n=>match n with
 | 4=>some d4
 | 5=>some d5
 | 6=>some d6
 | 7=>some d7
 | 13=>some d13
 | 14=>some d14
 | 15=>some d15
 | 20=>some d20
 | 46=>some d46
 | 47=>some Bu
 | 48=>some d48
 | 109=>some BH
 | 110=>some d110
 | 111=>some xk
 | 112=>some BG
 | 113=>some BF
 | 114=>some BE
 | 124=>some BD
 | 125=>some BC
 | 20000=>some ⟨1,1,.cons (.ret [] (.con .non)) .nil⟩
 | 20001=>some ⟨1,1,.cons (.ret [] (.call 20000 (.cons (.con .non) .nil))) .nil⟩
 | 20002=>some ⟨1,1,.cons (.ret [] (.call 20001 (.cons (.con .non) .nil))) .nil⟩
 | 20003=>some ⟨1,1,.cons (.ret [] (.call 20002 (.cons (.con .non) .nil))) .nil⟩
 | 20004=>some ⟨1,1,.cons (.ret [] (.call 20003 (.cons (.con .non) .nil))) .nil⟩
 | 20005=>some ⟨1,1,.cons (.ret [] (.call 20004 (.cons (.con .non) .nil))) .nil⟩
 | 20006=>some ⟨1,1,.cons (.ret [] (.call 20005 (.cons (.con .non) .nil))) .nil⟩
 | 20007=>some ⟨1,1,.cons (.ret [] (.call 20006 (.cons (.con .non) .nil))) .nil⟩
 | 20008=>some ⟨1,1,.cons (.ret [] (.call 20007 (.cons (.con .non) .nil))) .nil⟩
 | 20009=>some ⟨1,1,.cons (.ret [] (.call 20008 (.cons (.con .non) .nil))) .nil⟩
 | 20010=>some ⟨1,1,.cons (.ret [] (.call 20009 (.cons (.con .non) .nil))) .nil⟩
 | 20011=>some ⟨1,1,.cons (.ret [] (.call 20010 (.cons (.con .non) .nil))) .nil⟩
 | _=>none
end Law
namespace Law
open PySem IR L2
local macro_rules | `(tactic| walk_at "ev") => do
  let ids <- ("sc Option.bind_some Option.map_some Option.bind_none List.length_cons List.length_nil if_true if_false Nat.reduceAdd Nat.reduceSub List.map_cons List.map_nil List.replicate List.append_nil List.cons_append List.nil_append imm imms qy uj A4 A1 A2 A5 A3 AW yG List.getD_cons_zero List.getD_cons_succ at_0 at_1 vz cD bv cG cE cF cH b5 b6 bw cC cB bx bz cA b9 b7 vY vZ z0w sD sF sE yz yy yv yw yx bc vp vo uY uX xN xJ xI xf Aw Ay Ax uO uU iP zg mZ qv xW xX Az yF xz yB yD yC yA yE BK BL BM xu xt xr List.set_cons_zero List.set_cons_succ Cj zn zo kD v3 sU wD wF wC wE BP yH rK rL Am vI vJ setU ix_L ix_T ix_O ix_B ix_S kI cV zI zG zJ zH eq_self decide_true decide_false reduceCtorEq bne_self_eq_false beq_self_eq_true Bool.true_bne Bool.bne_true Bool.false_bne Bool.bne_false LN Nat.reduceLeDiff Nat.reduceLT Nat.reducePow Int.reduceLT Int.reduceLE Int.reducePow Int.reduceNeg Int.natAbs_one and_self true_and and_true or_true true_or reduceIte Bool.not_true Bool.not_false Bool.and_true Bool.or_true Bool.or_false Bool.true_or Bool.false_or Bool.true_and Bool.and_false Bool.false_and Bool.false_eq_true keeps qf qe List.getElem?_cons_zero List.getElem?_cons_succ".splitOn " ").toArray.mapM fun s => do
   let i := Lean.mkIdent s.toName
   `(Lean.Parser.Tactic.simpLemma| $i:ident)
  `(tactic| (try simp -implicitDefEqProofs only [$ids,*]))
local macro_rules | `(tactic| walk_at "go") => `(tactic| (walk_at "ev"; repeat (rw [D3 (by first | omega | assumption | decide)]; walk_at "ev")))
section
open PySem.Spec PyProof.Rows
noncomputable abbrev iA:List Str:=["choices","holders","row","tried"]
theorem CS:aY N110 iA (aA ll):=⟨rfl,rfl,rfl,by decide +kernel,rfl,by decide +kernel,by decide +kernel⟩
noncomputable def fQ(T:List Int):List (L2.ac×V):=T.map fun c=>(Sum.inl c,V.bl true)
theorem uu(T:List Int)(c:Int):(dN (fQ T) (Sum.inl c)).isSome=T.contains c:=by
 unfold dN fQ
 induction T with
 | nil=>rfl
 | cons d T ih =>
  rw[D2,Ed,Ff]
  by_cases e:d=c
  ·simp[e]
  ·have e' :¬((Sum.inl d:L2.ac)=Sum.inl c):=fun z=>e (Sum.inl.inj z)
   have e2:(c==d)=false:=by simpa using fun z:c=d=>e z.symm
   simp only[e',FP,e2,Bool.false_or];exact ih
section
variable{n:Nat}{rec:aL->Int->List Int->Bool×aL×List Int}{row c r:Int}{cs:List Int}{H H' :aL}{T T' :List Int}
theorem zK(h:T.contains c=true):ed rec row (c::cs) H T=ed rec row cs H T:=by
 show(if T.contains c=true then _ else _)=_;rw[D3 h]
theorem se(h:T.contains c=false)(e:af H c=none):ed rec row (c::cs) H T=(true,be H c row,T++[c]):=by
 unfold ed;rw[Dz (by rw[h];exact Dy),e]
theorem v2(h:T.contains c=false)(e:af H c=some r)(k:rec H r (T++[c])=(true,H',T')):ed rec row (c::cs) H T=(true,be H' c row,T'):=by
 unfold ed;rw[Dz (by rw[h];exact Dy),e];dsimp only;rw[k]
theorem sd(h:T.contains c=false)(e:af H c=some r)(k:rec H r (T++[c])=(false,H',T')):ed rec row (c::cs) H T=ed rec row cs H' T' :=by
 show(if T.contains c=true then _ else _)=_;rw[Dz (by rw[h];exact Dy),e];dsimp only;rw[k]
theorem kC(hr:∀H r T,(rec H r T).2.1.length<=H.length+n):∀{cs:List Int}{H:aL}{T:List Int},(∀H r T H' T',rec H r T=(false,H',T')->H' =H)->(ed rec row cs H T).2.1.length<=H.length+(n+1)
 | [],H,T,_=>by show H.length<=_;omega
 | c::cs,H,T,hf=>by
  unfold ed
  split
  ·exact kC hr hf
  ·split
   ·have:=hV H c row
    dsimp only;omega
   ·rename_i r e
    have h1:=hr H r (T++[c]);cases hw:rec H r (T++[c])with
    | mk b w =>
     obtain⟨H1,T1⟩:=w;rw[hw]at h1;dsimp only at h1;cases b with
     | true =>
      have:=hV H1 c row;dsimp only;omega
     | false =>
      have e1:=hf H r (T++[c]) H1 T1 hw;subst e1;exact kC hr hf
theorem nZ{C:List (List Int)}:∀{n:Nat}{H:aL}{row:Int}{T:List Int},(tk C n H row T).2.1.length<=H.length+n
 | 0,H,row,T=>Dx _
 | n+1,H,row,T=>kC (fun H r T=>nZ) (fun H r T H' T' h=>eZ h)
theorem tk8(nd:T.Nodup)(bd:∀c∈T,0<=c/\c<8):T.length<=8:=cX (U:=[0,1,2,3,4,5,6,7]) nd fun x hx=>by
 obtain⟨a,b⟩:=bd x hx;simp only[D8];omega
end
theorem ut{T:List Int}{c:Int}(h:T.contains c=false):cW (fQ T) (Sum.inl c) (V.bl true)=fQ (T++[c]):=by
 unfold cW;rw[Dz]
 ·unfold fQ
  rw[EF];rfl
 ·intro z
  rw[FO]at z;obtain⟨q,hq,e⟩:=z;unfold fQ at hq;obtain⟨d,hd,rfl⟩:=Dv.mp hq;have e:(Sum.inl d:L2.ac)=Sum.inl c:=Eg e;have:=Sum.inl.inj e;subst this;rw[EK.mpr hd]at h;cases h
noncomputable def bZ(a b:Addr)(H H' :Hp):Prop:=∀x o,x≠a->x≠b->H x=some o->H' x=some o
theorem bZ.trans{a b:Addr}{H H1 H2:Hp}(s:bZ a b H H1)(t:bZ a b H1 H2):bZ a b H H2:=fun x o n m e=>t x o n m (s x o n m e)
theorem bZ.refl{a b:Addr}{H:Hp}:bZ a b H H:=fun _ _ _ _ e=>e
noncomputable def DW(K:W.Frag)(a b:Addr)(H:Hp)(p:Addr)(xs:List V):Prop:=∀H',bZ a b H H' ->bJ K H' p xs
theorem DW.to{K:W.Frag}{a b p:Addr}{H H' :Hp}{xs:List V}(s:bZ a b H H')(h:DW K a b H p xs):DW K a b H' p xs:=fun H2 s2=>h H2 (s.trans s2)
noncomputable def yQ(K:W.Frag)(H:Hp)(a b:Addr)(us:List V)(C:List (List Int)):Prop:=us.length=C.length/\∀(i:Nat)(ns:List Int),C[i]? =some ns->∃p,us[i]? =some (.ref p)/\DW K a b H p (ns.map V.int)
theorem yQ.to{K:W.Frag}{a b:Addr}{H H' :Hp}{us:List V}{C:List (List Int)}(s:bZ a b H H')(h:yQ K H a b us C):yQ K H' a b us C :=
 ⟨h.1,fun i ns e=>by obtain⟨p,h1,h4⟩:=h.2 i ns e;exact⟨p,h1,h4.to s⟩⟩
noncomputable def spT(K:W.Frag)(n:Nat):Sp:=fun vs H Q _=>∃(p0 ph pt:Addr)(us:List V)(C:List (List Int))(Ht:aL)(row:Int)(T:List Int),vs=[.ref p0,.ref ph,.int row,.ref pt]/\DW K ph pt H p0 us/\yQ K H ph pt us C/\H ph=some (.dK (al Ht))/\H pt=some (.dK (fQ T)) /\
 ph≠pt/\(0<=row/\row<C.length)/\C.length<=8/\(∀ns∈C,ns.length<=100)/\(∀r,∀c∈df C r,0<=c/\c<8)/\(∀q∈Ht,0<=q.2/\q.2<C.length)/\Ht.length+n<=1000/\T.Nodup/\(∀c∈T,0<=c/\c<8)/\8<n+1+T.length /\
 ∀H',bZ ph pt H H' ->H' ph=some (.dK (al (tk C (n+1) Ht row T).2.1))->H' pt=some (.dK (fQ (tk C (n+1) Ht row T).2.2))->Q (.bl (tk C (n+1) Ht row T).1) H'
noncomputable def CP(K:W.Frag):Nat->Sp
 | 0=>fun _ _ _ _=>False
 | n+1=>spT K n
theorem uE{K:W.Frag}{mg:Str->Option Value}{p:Program}{w:World}{base:Heap}{f:Addr}{fd:FuncData}(D:Bl K mg "takes_column" ll iA f fd)(n:Nat)(F:bP p w K mg base jK n f fd iA (CP K n)):bP p w K mg base jK (n+1) f fd iA (spT K n):=by
 refine D.fn.ok CS (fun vs H Q E h=> ?_) (fun cdv A outer s0 H vs Q E hr h=> ?_)
 ·obtain⟨p0,ph,pt,us,C,Ht,row,T,rfl,_⟩:=h
  rfl
 obtain⟨p0,ph,pt,us,C,Ht,row,T,rfl,sq0,ca,hph,hpt,n3,hrow,c8,cl,cc,hh,hz,nd0,bd0,hn,q⟩:=h;have nd:=CS.nd;have hu:=yk hr;have hs:sizeLine=16777216:=Ej
 refine⟨_,bL (fi FM rfl (dj (tm fK (pv 0) (pv 2) (fun _ _=>rfl))) (aq (i:=4) nd rfl (Or.inl rfl))
   (bK (pM (tL (jW hu (pv 4) (pv 3)))
    (bL (kM hu (pv 3) (pv 4) pP rfl)
    (bK (pM (PW.pt (yY (tL (jW hu (pv 4) (pv 1))) (tH (zp (kN F hr rfl D.nm D.fn.kp D.bd .nil uA (aT (pv 0) (aT (pv 1) (aT (pO hu (pv 1) (pv 4) (fun _ _=>rfl)) (aT (pv 3) av)))))))))
     (bL (kM hu (pv 1) (pv 4) (pv 2) rfl) (bK (hZ pP))) gm))) gm)))
  (bK (hZ pP)),?_⟩
 obtain⟨cs,hcs⟩:∃cs,C[row.toNat]? =some cs:=⟨_,Dw (by omega)⟩;have ech:df C row=cs:=by unfold df;rw[Dt,hcs];rfl
 obtain⟨pr,hpr,sqr⟩:=ca.2 _ _ hcs;have hat:cf us row=some (.ref pr):=by
  have:=bE hpr;rw[show((row.toNat:Nat):Int)=row by omega]at this;exact this
 refine⟨_,rfl,_,rfl,p0,us,_,.ref pr,rfl,rfl,sq0 _ bZ.refl,hat,?_⟩;have etk:tk C (n+1) Ht row T=ed (tk C n) row cs Ht T:=by
  show ed (tk C n) row (df C row) Ht T=_;rw[ech]
 rw[etk]at q;have hc8:∀c∈cs,0<=c/\c<8:=fun c hc=>cc row c (by rw[ech];exact hc);refine⟨pr,rfl,⟨_,sqr _ bZ.refl⟩,ma (xs:=cs.map V.int) (fun i σ G=>∃Ti a,ed (tk C n) row cs Ht T=ed (tk C n) row (cs.drop i) Ht Ti/\Ti.Nodup/\(∀c∈Ti,0<=c/\c<8)/\T.length<=Ti.length/\bZ ph pt H G/\G ph=some (.dK (al Ht))/\G pt=some (.dK (fQ Ti))/\σ=[some (.ref p0),some (.ref ph),some (.int row),some (.ref pt),a]) ⟨T,none,rfl,nd0,bd0,Dx _,bZ.refl,hph,hpt,rfl⟩ ?_ ?_ ?_⟩
 ·rintro i σ G _ ⟨Ti,a,_,_,_,_,st,_,_,_⟩
  exact sqr _ st
 ·rintro i x σ G hx ⟨Ti,a,e0,ti1,ti2,ti3,st,gh,gt,rfl⟩
  obtain⟨c,hci,rfl⟩:∃c,cs[i]? =some c/\x=.int c:=by
   rw[D7]at hx;cases e:cs[i]? with
   | none=>rw[e]at hx;cases hx
   | some c=>rw[e]at hx;cases hx;exact⟨c,rfl,rfl⟩
  have hd:cs.drop i=c::cs.drop (i+1):=by
   obtain⟨z1,z2⟩:=D1.mp hci;rw[FY z1,z2]
  obtain⟨b0,b8⟩:=hc8 c (EE hci);refine⟨_,rfl,_,rfl,pt,_,rfl,d8.k (k:=Sum.inl c) gt,?_⟩;refine⟨_,rfl,?_⟩;rw[uu];cases hT:Ti.contains c with
  | true =>
   refine kU ?_;refine⟨Ti,_,?_,ti1,ti2,ti3,st,gh,gt,rfl⟩;rw[e0,hd,zK hT]
  | false =>
   refine iR ?_;have tl:Ti.length<=8:=tk8 ti1 ti2;refine⟨_,rfl,_,rfl,pt,_,rfl,.inl ⟨_,Sum.inl c,gt,rfl,by unfold fQ;rw[Dp,hs];omega,rfl⟩,?_⟩;rw[ut hT];obtain⟨G1,hG1⟩:∃G1,G1=L2.upd G pt (.dK (fQ (Ti++[c]))):=⟨_,rfl⟩;rw[<- hG1];have g1t:G1 pt=some (.dK (fQ (Ti++[c]))):=by rw[hG1,aD]
   have g1h:G1 ph=some (.dK (al Ht)):=by rw[hG1,aB n3];exact gh
   have st1:bZ ph pt H G1:=fun x o a1 a2 e=>by rw[hG1,aB a2];exact st x o a1 a2 e
   refine⟨_,rfl,_,rfl,ph,_,rfl,d8.k (k:=Sum.inl c) g1h,?_⟩;rw[kj];cases hg:af Ht c with
   | none =>
    refine⟨_,rfl,iR ?_⟩;refine iR ?_;refine⟨_,rfl,_,rfl,_,rfl,ph,_,rfl,.inl ⟨_,Sum.inl c,g1h,rfl,by unfold al;rw[Dp,hs];omega,rfl⟩,?_⟩;rw[ki];have e1:ed (tk C n) row cs Ht T=(true,be Ht c row,Ti++[c]):=by rw[e0,hd,se hT hg]
    rw[e1]at q;exact q _ (fun x o a1 a2 e=>by rw[aB a1];exact st1 x o a1 a2 e) aD (by rw[aB (Fd n3)];exact g1t)
   | some r =>
    refine⟨_,rfl,kU ?_⟩;obtain⟨r0,r1⟩:=hh _ (cu hg);have nd1:(Ti++[c]).Nodup:=by
     rw[Er];refine⟨ti1,by simp,fun a ha x hx z=> ?_⟩;rw[Ee]at hx;subst hx z;rw[EK.mpr ha]at hT;cases hT
    have bd1:∀d∈Ti++[c],0<=d/\d<8:=fun d hd=>by
     rcases EL.mp hd with z|z
     ·exact ti2 d z
     ·rw[Ee.mp z]
      exact⟨b0,b8⟩
    have tl1:=tk8 nd1 bd1;rw[EC,FS]at tl1;cases n with
    | zero=>omega
    | succ n =>
    refine⟨_,rfl,_,rfl,_,rfl,_,rfl,ph,.int r,rfl,?_,?_⟩
    ·have:=d8.k (k:=Sum.inl c) g1h
     rw[kj,hg]at this;exact this
    ·refine⟨_,rfl,?_⟩
     refine⟨p0,ph,pt,us,C,Ht,r,Ti++[c],rfl,sq0.to st1,ca.to st1,g1h,g1t,n3,⟨r0,r1⟩,c8,cl,cc,hh,by omega,nd1,bd1,by rw[EC,FS];omega,fun G2 s2 g2h g2t=> ?_⟩;have hlen:=nZ (C:=C) (n:=n+1) (H:=Ht) (row:=r) (T:=Ti++[c]);cases hw:tk C (n+1) Ht r (Ti++[c])with
     | mk b w =>
      obtain⟨H2,T2⟩:=w;rw[hw]at g2h g2t hlen;have g2h:G2 ph=some (.dK (al H2)):=g2h;have g2t:G2 pt=some (.dK (fQ T2)):=g2t;have hlen:H2.length<=Ht.length+(n+1):=hlen;refine⟨b,rfl,?_⟩;cases b with
      | true =>
       refine iR ?_;refine⟨_,rfl,_,rfl,_,rfl,ph,_,rfl,.inl ⟨_,Sum.inl c,g2h,rfl,by unfold al;rw[Dp,hs];omega,rfl⟩,?_⟩;rw[ki];have e1:ed (tk C (n+1)) row cs Ht T=(true,be H2 c row,T2):=by rw[e0,hd,v2 hT hg hw]
       rw[e1]at q;exact q _ (fun x o a1 a2 e=>by rw[aB a1];exact s2 x o a1 a2 (st1 x o a1 a2 e)) aD (by rw[aB (Fd n3)];exact g2t)
      | false =>
       refine kU ?_;have e2:=eZ hw;subst e2;obtain⟨_,j2,j3,j4,_,_⟩:=sZ cc nd1 bd1 (by rw[EC,FS];omega) hw;refine⟨T2,_,?_,j3,j4,?_,st1.trans s2,g2h,g2t,rfl⟩
       ·rw[e0,hd,sd hT hg hw]
       ·exact Eh ti3 (cX ti1 fun x hx=>j2 (EH _ hx))
 ·rintro σ G ⟨Ti,a,e0,ti1,ti2,ti3,st,gh,gt,rfl⟩
  rw[Dp,List.drop_length]at e0;rw[e0]at q;exact q G st gh gt
theorem jw{K:W.Frag}{mg:Str->Option Value}{p:Program}{w:World}{base:Heap}{f:Addr}{fd:FuncData}(D:Bl K mg "takes_column" ll iA f fd):∀n,bP p w K mg base jK n f fd iA (CP K n)
 | 0=>⟨fun vs H Q E h=>h.elim,fun A outer s H args us vs Q E _ _ _ _ h=>h.elim⟩
 | n+1=>uE D n (jw D n)
end
section
open PySem.Spec PyProof.Rows
theorem CT:aY N111 ["choices"] (aA qQ):=⟨rfl,rfl,rfl,by decide +kernel,rfl,by decide +kernel,by decide +kernel⟩
theorem lv11{k:Nat}{v:PV}(h:aI P k 20011 [.non]=some v):12<=k:=by
 by_cases hk:12<=k
 ·exact hk
 ·have:k=0\/k=1\/k=2\/k=3\/k=4\/k=5\/k=6\/k=7\/k=8\/k=9\/k=10\/k=11:=by omega
  have e:∀k,k<12->(aI P k 20011 [.non]).isNone=true:=by decide +kernel
  have:=e k (by omega);rw[h]at this;cases this
theorem mT{k:Nat}{vs:List PV}{r:PV}(h:aI P (k+1) 111 vs=some r):12<=k/\∃C,vs=[.lst (jC C)]/\eS C=true/\r=dP (hd C C.length):=by
 rw[og]at h;have hP:P 111=some xk:=rfl;rw[hP,Ei]at h
 split at h
 case isFalse=>cases h
 rename_i hl;have hl:vs.length=1:=hl
 match vs,hl with
 | [v],_ =>
  simp only[xk,vW,vX,gU,gK,gJ,gN,gP,gI,gL,gS,gR,gW,gQ,gT,gO,gM,cD,bv,cG,cN,cE,cQ,cK,cL,cO,cF,cH,b5,b6,bw,cP,cC,cB,bx,bz,cA,b9,b7,cM,vY,vZ,entry,Ei,FG,D2,FK,bc]at h;cases h9:aI P k 20011 [.non]with
  | none=>rw[h9]at h;cases h
  | some x =>
   rw[h9]at h;refine⟨lv11 h9,?_⟩;simp only[FG,Ei,kD]at h;have e:(([TV.frz v (imm v)]++List.replicate (3-[v].length) TV.un).take 1).map TV.valD=[v]:=rfl;rw[e]at h;cases hg:mU [v]with
   | none=>rw[hg]at h;cases h
   | some r' =>
    rw[hg]at h;have h:some r' =some r:=h;cases h;unfold mU at hg
    split at hg
    case h_2=>cases hg
    rename_i cs heq;cases heq;cases et:gZ cs with
    | none=>rw[et]at hg;cases hg
    | some C =>
     rw[et]at hg;simp only[Ei]at hg
     split at hg
     ·rename_i hc
      cases hg;exact⟨C,by rw[jl et],hc,rfl⟩
     ·cases hg
theorem yo{K:W.Frag}{Hi:Hp}{n:Bool}{H:Hp}:∀{C:List (List Int)}{us:List V},aF K Hi n (jC C) H us->us.length=C.length/\∀(i:Nat)(ns:List Int),C[i]? =some ns->∃p,us[i]? =some (.ref p)/\bJ K H p (ns.map V.int)
 | [],us,h=>by
  have h:aF K Hi n [] H us:=h;unfold aF at h;subst h;exact⟨rfl,fun i ns e=>by simp at e⟩
 | c::C,us,h=>by
  have h:aF K Hi n (.lst (c.map .int)::jC C) H us:=h;unfold aF at h;obtain⟨u,r,rfl,a,b⟩:=h;obtain⟨h1,h2⟩:=yo b;refine⟨by rw[ED,ED,h1],fun i ns e=> ?_⟩;cases i with
  | zero =>
   have e:c=ns:=by simpa using e
   subst e;obtain⟨p,us',rfl,_,l,r'⟩:=Rp.lst.mp a;have:=aF.ints.mp r';subst this;exact⟨p,rfl,l⟩
  | succ i =>
   obtain⟨p,w1,w2⟩:=h2 i ns (by simpa using e);exact⟨p,by simpa using w1,w2⟩
theorem ka{C:List (List Int)}:∀k:Nat,(hd C k).length<=9*k
 | 0=>Dx _
 | k+1=>by
  have h1:=ka (C:=C) k;have h2:=nZ (C:=C) (n:=9) (H:=hd C k) (row:=(k:Nat)) (T:=[]);show(tk C 9 (hd C k) (k:Nat) []).2.1.length<=_;omega
theorem xU{K:W.Frag}{mg:Str->Option Value}{f fc:Addr}{fd fdc:FuncData}(hle:mg "len"=none)(hra:mg "range"=none)(DC:Bl K mg "takes_column" ll iA fc fdc)(D:Bl K mg "holders_of" qQ ["choices"] f fd)(p:Program)(w:World)(base:Heap)(k:Nat)
  (_:∀y g,F.lookup y=some g->∃b gd qs,mg y=some (.ref b)/\W.keepIn K (.ref b)=true/\Binds K gd qs []/\bP p w K mg base jK k b gd qs (ve K (aI P k g))):bP p w K mg base jK (k+1) f fd ["choices"] (ve K (aI P (k+1) 111)):=by
 refine D.fn.ok CT (fun vs H Q E h=> ?_) (fun cdv A outer s H vs Q E hr h=> ?_)
 ·obtain⟨pvs,r,h1,h2,_⟩:=h
  rw[<- h1.len];obtain⟨_,C,e,_⟩:=mT h2;rw[e];rfl
 obtain⟨pvs,r,h1,h2,q⟩:=h;obtain⟨hk,C,rfl,hg,rfl⟩:=mT h2;obtain⟨c8,cl,cc⟩:=eR hg;have FC:=(jw (p:=p) (w:=w) (base:=base) DC 9).mono (k:=k) (by omega);have nd:=CT.nd;have hs:sizeLine=16777216:=Ej;unfold aF at h1;obtain⟨u1,_,rfl,r1,h1⟩:=h1;unfold aF at h1;subst h1;obtain⟨p0,us,rfl,_,sq0,rl⟩:=Rp.lst.mp r1;obtain⟨ul,ua⟩:=yo (rl.mono ay)
 refine⟨_,bL (hX (i:=1) nd rfl (Or.inl rfl) fF)
  (bL (fi FM rfl (jV rfl hra (aT (fG dH rfl hle F2 (aT (pv 0) av)) av)) (aq (i:=2) nd rfl (Or.inl rfl))
   (bK (pN (kN FC hr rfl DC.nm DC.fn.kp DC.bd .nil uA (aT (pv 0) (aT (pv 1) (aT (pv 2) (aT fF av))))))))
  (bK (hZ (pv 1)))),?_⟩
 intro ph hph;obtain⟨H1,hH1⟩:∃H1,H1=L2.upd H ph (.dK []):=⟨_,rfl⟩;have s1:aC H H1:=by rw[hH1];exact aJ hph _
 have h1p:H1 ph=some (.dK (al (hd C 0))):=by rw[hH1,aD];rfl
 rw[<- hH1];refine⟨_,rfl,p0,us,rfl,.inl (s1.seq sq0),((us.length:Nat):Int),rfl,by omega,by rw[ul];omega,?_⟩;refine qw (lo:=0) (n:=((us.length:Nat):Int).toNat) (fun i σ G=>∃a,σ=[some (.ref p0),some (.ref ph),a]/\aC H G/\G ph=some (.dK (al (hd C i)))) ⟨_,rfl,s1,h1p⟩ ?_ ?_
 ·rintro i σ G hi ⟨a,rfl,sG,gh⟩
  have hi:i<C.length:=by rw[<- ul];simpa using hi
  have e0:((0:Int)+(i:Nat))=((i:Nat):Int):=by omega
  rw[e0];refine⟨_,rfl,_,rfl,_,rfl,fun pt hpt=> ?_⟩;obtain⟨G1,hG1⟩:∃G1,G1=L2.upd G pt (.dK []):=⟨_,rfl⟩;have sg1:aC G G1:=by rw[hG1];exact aJ hpt _
  have g1t:G1 pt=some (.dK (fQ [])):=by rw[hG1,aD];rfl
  have npt:H pt=none:=sG.free hpt;have nn:ph≠pt:=fun z=>by rw[<- z,gh]at hpt;cases hpt
  rw[<- hG1];have key:∀H',bZ ph pt G1 H' ->aC H H' :=fun H' st x o e=>st x o (fun z=>by rw[z,hph]at e;cases e) (fun z=>by rw[z,npt]at e;cases e) (sg1 _ _ (sG _ _ e));have ok:=mV cc i;have hl:=ka (C:=C) i;refine⟨p0,ph,pt,us,C,hd C i,(i:Nat),[],rfl,fun H' st=>(key H' st).seq sq0,⟨ul,fun j ns e=> ?_⟩,sg1 _ _ gh,g1t,nn,⟨by omega,by omega⟩,c8,cl,cc,fun x hx=> ?_,(show(hd C i).length+8<=1000 by omega),.nil,(fun c hc=>nomatch hc),(by decide),fun H' st e1 e2=> ?_⟩
  ·obtain⟨pj,w1,w2⟩:=ua j ns e
   exact⟨pj,w1,fun H' st=>(key H' st).seq w2⟩
  ·have:=ok.rows _ (Dv.mpr ⟨x,hx,rfl⟩)
   omega
  ·exact⟨_,rfl,key H' st,e1⟩
 ·rintro σ G ⟨a,rfl,sG,gh⟩
  have e:((us.length:Nat):Int).toNat=C.length:=by omega
  rw[e]at gh;exact⟨_,rfl,q _ _ sG (jR hph gh)⟩
end
theorem mK(x:Int)(l:List Int):cS .NotIn (.int x) (.lst (l.map .int))=some (!l.contains x):=by
 show(Br _ _).map _=_;unfold Br;rw[D3 ⟨rfl,by rw[List.all_map,EG];intro y _;rfl⟩,FG,List.any_map]
 congr 2
 rw[FH,FO,EK]
 constructor
 ·rintro⟨y,hy,e⟩
  have e:decide (y=x)=true:=e;rw[<- Eg e];exact hy
 ·intro hy
  exact⟨x,hy,by show decide (x=x)=true;exact EX rfl⟩
theorem ze{n:Nat}{m:Bool}(h:n<=1000):hJ [.frz (.int (n:Nat)) m]=some ((List.range n).map fun i=>.int (0+(i:Nat))):=by
 simp only[hJ,bc];rw[D3 ⟨by omega,by omega⟩,Fm]
theorem DJ(k n:Nat)(l:List Int)(hn:n<=1000):aI P (k+1) 112 [.int (n:Nat),.lst (l.map .int)]=some (.lst ((gg n l).map .int)):=by
 refine eo rfl rfl ?_;simp only[BG,entry];walk_at "ev";rw[ze hn];walk_at "ev";rw[D3 (by rw[Dp,EZ];omega),br (p:=fun c:Nat=> !l.contains (c:Int)) (g:=fun c=>PV.int (c:Nat)) (fun c hc=>by
  walk_at "ev";rw[show(0:Int)+(c:Nat)=(c:Nat)by omega,mK];cases l.contains (c:Int)
  ·walk_at "ev"
  ·walk_at "ev")]
 walk_at "ev";unfold gg fH;rw[List.filter_map,EU];rfl
theorem vm(H:aL)(c:Int):ge (H.map fun p=>(Sum.inl p.1:IR.ac)) (H.map fun p=>PV.int p.2) (Sum.inl c)=(af H c).map PV.int:=by
 unfold af
 induction H with
 | nil=>rfl
 | cons p H ih =>
  rw[D2,D2,Ed];unfold ge
  by_cases e:p.1=c
  ·rw[D3 (by rw[e]),EX e]
   rfl
  ·rw[Dz fun z=>e (Sum.inl.inj z),EV e]
   exact ih
theorem rM{n:Bool}(H:aL)(h:H.length<=1000):lF .lvals [.frz (dP H) n]=some (.own ((H.map (·.2)).map PV.int) true):=by
 show(if _ then(aP (H.map fun p:Int×Int=>PV.int p.2)).map _ else none)=_;rw[D3 (by rw[Dp];show _<=16777216;omega),show(H.map fun p:Int×Int=>PV.int p.2)=(H.map (·.2)).map PV.int by rw[EU];rfl,bT];rfl
theorem Af{H:aL}{n:Bool}{c r:Int}{m:Bool}(h:af H c=some r):index (.frz (dP H) n) (.frz (.int c) m)=some (.frz (.int r) true):=by
 show(ge (H.map fun p=>(Sum.inl p.1:IR.ac)) (H.map fun p=>PV.int p.2) (Sum.inl c)).map _=_;rw[vm,h];show some (RV.frz (.int r) (n||true))=_;rw[Bool.or_true]
theorem wO{C:List (List Int)}{H:aL}{n k:Nat}{R Q:List Int}(ok:lA C n H)(h:nK C H n R Q k){r:Int}(hr:r∈R):0<=r/\r<(n:Int):=by
 rw[h.shape]at hr
 rcases EL.mp hr with z|z
 ·exact(bn.mp z).1
 ·obtain⟨c,hc,rfl⟩:=Dv.mp z
  exact ok.rows _ (Dv.mpr ⟨_,cu (kY (hU ok h hc)),rfl⟩)
theorem c113(k:Nat)(C:List (List Int))(c8:C.length<=8)(cc:∀r,∀c∈df C r,0<=c/\c<8):∃v,aI P (k+2) 113 [.lst (jC C),dP (hd C C.length)]=some v/\∃R Q,v=.tup [.lst (R.map .int),.lst (Q.map .int)]/\nK C (hd C C.length) C.length R Q R.length:=by
 refine jQ rfl rfl ?_;have ok:=mV cc C.length;have hl:(hd C C.length).length<=100:=by
  have:=ka (C:=C) C.length;omega
 obtain⟨H,hH⟩:∃H,H=hd C C.length:=⟨_,rfl⟩;rw[<- hH]at ok hl ⊢;have e1:=DJ k C.length (H.map (·.2)) (by omega);simp only[BF,entry];walk_at "ev";rw[show(jC C).length=C.length from Dp _,rM H (by omega)];walk_at "ev";rw[e1];walk_at "ev";refine B2 (fun m τ=>∃R Q pl a b,m+pl=C.length+8/\nK C H C.length R Q pl/\pl<=R.length/\τ=[.frz (.lst (jC C)) false,.frz (dP H) false,.own (R.map .int) true,.own (Q.map .int) true,.frz (.int (pl:Nat)) true,a,b]) (C.length+8) (by omega) ⟨_,_,0,_,_,rfl,tE,EY _,rfl⟩ ?_;rintro m τ ⟨R,Q,pl,a,b,hm,hr,hp,rfl⟩;have rl:=kJ ok hr;refine⟨decide (pl<R.length),?_,fun z=> ?_,fun z=> ?_⟩
 ·walk_at "ev"
  rw[Dp,show decide ((pl:Int)<(R.length:Int))=decide (pl<R.length)from by rw[FH,decide_eq_true_iff,decide_eq_true_iff];omega]
 ·have hpl:pl<R.length:=Eg z
  refine⟨by omega,?_⟩;walk_at "ev";rw[AU hpl];walk_at "ev";have hrm:R[pl]? =some (R.getD pl 0):=by rw[Dt,Dw hpl];rfl
  obtain⟨r,er⟩:∃r,r=R.getD pl 0:=⟨_,rfl⟩;rw[<- er]at hrm ⊢;obtain⟨r0,r1⟩:=wO ok hr (EE hrm);obtain⟨cs,hcs⟩:∃cs,C[r.toNat]? =some cs:=⟨_,Dw (by omega)⟩;have ech:df C r=cs:=by unfold df;rw[Dt,hcs];rfl
  have eat:cf (jC C) r=some (.lst (cs.map .int)):=by
   have:=bE (xs:=jC C) (j:=r.toNat) (v:=.lst (cs.map .int)) (by unfold jC;rw[D7,hcs];rfl);rw[show((r.toNat:Nat):Int)=r by omega]at this;exact this
  refine eC (xs:=cs.map .int) (n:=false) ?_ (fun j τ=>∃R' Q' b,nK C H C.length R' Q' pl/\R'[pl]? =some r/\(∀c∈cs.take j,c∈Q')/\τ=[.frz (.lst (jC C)) false,.frz (dP H) false,.own (R'.map .int) true,.own (Q'.map .int) true,.frz (.int (pl:Nat)) true,.frz (.int r) true,b]) ⟨R,Q,b,hr,hrm,fun c hc=>by simp at hc,rfl⟩ ?_ ?_
  ·walk_at "ev"
   rw[eat];walk_at "ev"
  ·rintro j y τ hy ⟨R',Q',b,hr',hrm',hq',rfl⟩
   obtain⟨hj,rfl,hmem⟩:=int_at hy;have ecj:cs[j]? =some (cs.getD j 0):=by rw[Dt,Dw hj];rfl
   obtain⟨c,ec⟩:∃c,c=cs.getD j 0:=⟨_,rfl⟩;rw[<- ec]at hmem ecj ⊢;have tk1:cs.take (j+1)=cs.take j++[c]:=by rw[FJ,ecj];rfl
   have hpl' :pl<R'.length:=(D1.mp hrm').1;refine⟨_,rfl,?_⟩;walk_at "ev";rw[mK];have rl' :=kJ ok hr';cases hc:Q'.contains c with
   | true =>
    walk_at "ev";refine⟨R',Q',_,hr',hrm',fun d hd=> ?_,rfl⟩;rw[tk1]at hd
    rcases EL.mp hd with z|z
    ·exact hq' d z
    ·rw[Ee.mp z]
     exact EK.mp hc
   | false =>
    have ncQ:c∉Q' :=fun z=>by rw[EK.mpr z]at hc;cases hc
    have hrm2:=EE hrm';have hcc:c∈df C r:=by rw[ech];exact hmem
    have hr2:=zi hr' (FR hpl') hrm2 hcc ncQ;have rl2:=kJ ok hr2;have ql:Q'.length<=R'.length:=by rw[hr'.shape,EC,Dp];omega
    have eix:=Af (n:=false) (m:=true) (kY (wQ ok hr' hrm2 hcc));walk_at "ev";rw[ci rfl (by rw[Dp];show _<16777216;omega)];walk_at "ev";rw[eix];walk_at "ev";rw[ci rfl (by rw[Dp];show _<16777216;omega)];walk_at "ev";refine⟨R' ++[Au H c],Q' ++[c],_,hr2,by rw[Eo hpl'];exact hrm',fun d hd=> ?_,by rw[EF,EF];rfl⟩;rw[tk1]at hd
    rcases EL.mp hd with z|z
    ·exact EH _ (hq' d z)
    ·exact EM _ z
  ·rintro τ ⟨R',Q',b,hr',hrm',hq',rfl⟩
   rw[Dp,Es]at hq';have hpl' :pl<R'.length:=(D1.mp hrm').1;walk_at "ev";rw[yI rfl];walk_at "ev";exact⟨_,rfl,R',Q',pl+1,_,_,by omega,wP hr' hrm' (by rw[ech];exact hq'),hpl',rfl⟩
 ·have hpl:¬pl<R.length:=of_decide_eq_false z
  walk_at "ev";refine⟨_,rfl,R,Q,rfl,?_⟩;rw[show R.length=pl by omega];exact hr
theorem oP(z:Str):List.zipWith gi (List.range z.length) (signs z)=(List.range z.length).map fun c=>gi c (.str ⟨#[z.cps.toList.getD c 0]⟩):=by
 refine List.ext_getElem (by rw[Fy,bi,Dp,Nat.min_eq_left (by rw[EZ];exact Dx _)]) fun i h1 h2=> ?_;have hi:i<z.length:=by simpa using h2
 have hc:i<z.cps.toList.length:=by rw[EQ];exact hi
 rw[List.getElem_zipWith,FX,List.getElem_range]
 congr 1
 unfold signs;rw[FX,Dt,Dw hc];rfl
theorem c109(k:Nat)(z:Str)(hz:z.length<=8):aI P (k+1) 109 [.str z]=some (.lst ((bt z).map fun c=>.int (c:Nat))):=by
 refine eo rfl rfl ?_;simp only[BH,entry];walk_at "ev";rw[show ml (.frz (.str z) true)=some (List.zipWith gi (List.range z.length) (signs z),true)from rfl,oP];walk_at "ev";rw[D3 (by rw[Dp,EZ];omega),br (p:=fun c=>z.cps.toList.getD c 0==120) (g:=fun c=>PV.int (c:Nat)) (fun c hc=>by
  show(iE (.tup [.int (c:Nat),.str ⟨#[z.cps.toList.getD c 0]⟩])).bind _=_;simp only[iE];walk_at "ev";rw[oY];cases z.cps.toList.getD c 0==120
  ·walk_at "ev"
  ·walk_at "ev")]
 walk_at "ev";rfl
theorem jU:∀ps:List (Int×Int),fC (ps.map bg)=some ps
 | []=>rfl
 | p::ps=>by
  show((tQ (bg p)).bind fun q=>(fC (ps.map bg)).map (q::·))=_;rw[jU ps];rfl
theorem qM{ps:List (Int×Int)}(h0:ps≠[])(hl:ps.length<64)(hb:∀q∈ps,0<=q.2/\q.2<1000):d9 (ps.map bg)=some (.own ((dM ps).map bg) true):=by
 unfold d9;have e:aP (ps.map bg)=none:=by
  cases ps with
  | nil=>exact absurd rfl h0
  | cons p ps=>rfl
 rw[e];show li _=_;unfold li;rw[jU];have ha:ps.all (fun q=>decide (0<=q.2)&&decide (q.2<1000))=true:=by
  rw[EG];intro q hq
  simpa using hb q hq
 show(if ps.length<64/\ps.all (fun q=>decide (0<=q.2)&&decide (q.2<1000))=true then some (RV.own ((dM ps).map bg) true)else none)=_;rw[D3 ⟨hl,ha⟩]
noncomputable def i5(rows:List Str):List (List Int):=rows.map fun z=>(bt z).map fun c:Nat=>(c:Int)
noncomputable def gf(H:aL):List (Int×Int):=H.map fun p=>(p.2,p.1)
theorem pJ:∀H:aL,vf (H.map fun p=>Sum.inl p.1) (H.map fun p=>.int p.2)=some H
 | []=>rfl
 | p::H=>by
  show(vf (H.map fun p=>Sum.inl p.1) (H.map fun p=>.int p.2)).map (p::·)=_;rw[pJ H];rfl
theorem xK{n:Bool}{H:aL}(h:H.length<=1000):qm (.frz (dP H) n)=some (.own ((gf H).map bg) true):=by
 show(if(H.map fun p:Int×Int=>(Sum.inl p.1:IR.ac)).length<=LN then(vf (H.map fun p=>Sum.inl p.1) (H.map fun p=>.int p.2)).map _ else none)=_;rw[D3 (by rw[Dp];show _<=16777216;omega),pJ];unfold gf;rw[EU];rfl
theorem si{ps:List (Int×Int)}(hl:ps.length<64)(hb:∀q∈ps,0<=q.2/\q.2<1000):d9 (ps.map bg)=some (.own ((dM ps).map bg) true):=by
 by_cases h0:ps=[]
 ·subst h0
  have:dM []=[]:=List.eq_nil_of_length_eq_zero (by rw[(dA []).length_eq];rfl);rw[this];have e2:L2.sortI []=[]:=List.eq_nil_of_length_eq_zero (by rw[(L2.sortI_perm []).length_eq];rfl);show(if([]:List Int).length<64 then some (RV.own ((L2.sortI []).map PV.int) true)else none)=_;rw[D3 (by decide),e2];rfl
 ·exact qM h0 hl hb
theorem c111(k:Nat)(C:List (List Int))(hg:eS C=true):aI P (k+13) 111 [.lst (jC C)]=some (dP (hd C C.length)):=by
 refine run rfl rfl ?_;have e9:aI P (k+12) 20011 [.non]=some .non:=rfl;have eg:mU [.lst (jC C)]=some (dP (hd C C.length)):=by
  unfold mU;dsimp only;rw[jm];simp only[Ei];rw[D3 hg]
 simp only[xk,vW,vX,gU,gK,gJ,gN,gP,gI,gL,gS,gR,gW,gQ,gT,gO,gM,cD,bv,cG,cN,cE,cQ,cK,cL,cO,cF,cH,b5,b6,bw,cP,cC,cB,bx,bz,cA,b9,b7,cM,vY,vZ,entry,Ei,FG,D2,FK,bc,sc];rw[e9];simp only[FG,Ei,kD];have e:(([TV.frz (PV.lst (jC C)) (imm (PV.lst (jC C)))]++List.replicate (3-[PV.lst (jC C)].length) TV.un).take 1).map TV.valD=[.lst (jC C)]:=rfl;rw[e,eg];rfl
theorem mz{rows:List Str}{w:Nat}(hw:Wd rows w)(h8:rows.length<=8)(w8:w<=8):eS (i5 rows)=true:=by
 unfold eS i5;rw[Du];refine⟨EX (by rw[Dp];exact h8),?_⟩;rw[List.all_map,EG];intro z hz;have hzw:=hw z hz;show(decide (((bt z).map fun c:Nat=>(c:Int)).length<=100)&&((bt z).map fun c:Nat=>(c:Int)).all _)=true;rw[Du];refine⟨EX ?_,?_⟩
 ·rw[Dp]
  unfold bt;refine Eh (FT _ _) ?_;rw[EZ];omega
 ·rw[List.all_map,EG]
  intro c hc;have hc:=(EW.mp hc).1;rw[Eb]at hc;show(decide ((0:Int)<=(c:Nat))&&decide (((c:Nat):Int)<8))=true;rw[Du];exact⟨EX (by omega),EX (by omega)⟩
theorem qL{l:List Int}(h:l.length<64):d9 (l.map .int)=some (.own ((L2.sortI l).map .int) true):=by
 unfold d9;rw[bT];exact D3 h
theorem sX(H:aL):kA (dP H)=.frz (dP H) true:=rfl
theorem c114(k:Nat)(rows:List Str)(w:Nat)(hw:Wd rows w)(h8:rows.length<=8)(w8:w<=8):∃v,aI P (k+14) 114 [.tup (rows.map .str)]=some v/\∃R Q,v=.tup [.tup ((dM (gf (hd (i5 rows) rows.length))).map bg),.lst ((gg rows.length R).map .int),.lst ((L2.sortI Q).map .int)]/\nK (i5 rows) (hd (i5 rows) rows.length) rows.length R Q R.length:=by
 refine jQ rfl rfl ?_;have hg:=mz hw h8 w8;obtain⟨_,cl,cc⟩:=eR hg;have en:(i5 rows).length=rows.length:=by unfold i5;rw[Dp]
 have e111:=c111 k (i5 rows) hg;obtain⟨v,e113,R,Q,rfl,hr⟩:=c113 (k+11) (i5 rows) (by omega) cc;have ok:=mV cc rows.length;have hl:=ka (C:=i5 rows) rows.length;rw[en]at e111 e113 hr;have e112:=DJ (k+12) rows.length R (by omega);obtain⟨H,hH⟩:∃H,H=hd (i5 rows) rows.length:=⟨_,rfl⟩;rw[<- hH]at e111 e113 hr ok hl ⊢;have rl:=kJ ok hr;have ql:Q.length<=R.length:=by rw[hr.shape,EC,Dp];omega
 have hl63:H.length<=8:=by
  have:=cX (U:=[0,1,2,3,4,5,6,7]) ok.mt.rows fun x hx=>by
   obtain⟨a,b⟩:=ok.rows x hx;simp only[D8];omega
  rw[Dp]at this;exact this
 have im:=bW rows;simp only[BE,entry];walk_at "ev";rw[D3 (by rw[Dp];omega),ic (h:=PV.str) (g:=fun z=>PV.lst (((bt z).map fun c:Nat=>(c:Int)).map .int)) (fun z hz=>by
  have e1:=c109 (k+12) z (by have:=hw z hz;omega);walk_at "ev";rw[e1];walk_at "ev";rw[EU];rfl)]
 walk_at "ev";have ec:rows.map (fun z=>PV.lst (((bt z).map fun c:Nat=>(c:Int)).map .int))=jC (i5 rows):=by
  unfold jC i5;rw[EU];rfl
 have hbs:∀q∈gf H,0<=q.2/\q.2<1000:=by
  intro q hq;unfold gf at hq;obtain⟨p,hp,rfl⟩:=Dv.mp hq;have:=cc p.2 p.1 (ok.mt.edge p hp);show 0<=p.1/\p.1<1000;omega
 rw[ec,e111];walk_at "ev";rw[sX];walk_at "ev";rw[xK (by omega)];walk_at "ev";rw[si (by unfold gf;rw[Dp];omega) hbs];walk_at "ev";rw[e113];walk_at "ev";rw[Dp,e112];walk_at "ev";rw[qL (by omega)];walk_at "ev";exact⟨_,rfl,R,Q,rfl,hr⟩
noncomputable def vC(i j:Nat):PV:=.tup [.int (i:Nat),.int (j:Nat)]
noncomputable def hE(rows:List Str)(i j:Nat):List PV:=((List.range j).filter fun c=>cd rows i c==120).map fun c=>vC i c
noncomputable def ir(rows:List Str)(w i:Nat):List PV:=(List.range i).flatMap fun r=>hE rows r w
theorem qR(rows:List Str)(i j:Nat):hE rows i (j+1)=hE rows i j++(if cd rows i j==120 then[vC i j]else[]):=by
 unfold hE;rw[List.range_succ,List.filter_append,EF];cases h:cd rows i j==120<;>simp[h]
theorem jx(rows:List Str)(w i:Nat):ir rows w (i+1)=ir rows w i++hE rows i w:=by
 unfold ir;rw[List.range_succ,List.flatMap_append];simp
theorem lq(rows:List Str)(i j:Nat):(hE rows i j).length<=j:=by
 unfold hE;rw[Dp];exact Eh (FT _ _) (by rw[EZ];exact Dx _)
theorem ip(rows:List Str)(w:Nat):∀i,(ir rows w i).length<=i*w
 | 0=>by simp[ir]
 | i+1=>by
  rw[jx,EC,Nat.succ_mul];have:=ip rows w i;have:=lq rows i w;omega
theorem nX{rows:List Str}{i:Nat}{z:Str}(h:rows[i]? =some z):cf (rows.map PV.str) (i:Int)=some (.str z):=bE (by rw[D7,h];rfl)
noncomputable def cI(rows:List Str)(w:Nat):List (Int×Int):=(List.range rows.length).flatMap fun r=>((List.range w).filter fun c=>cd rows r c==120).map fun c:Nat=>((r:Int),(c:Int))
theorem vG(rows:List Str)(w:Nat):ir rows w rows.length=(cI rows w).map bg:=by
 unfold ir cI hE;rw[List.map_flatMap]
 congr 1
 funext r
 rw[EU];rfl
theorem BN{rows:List Str}{w:Nat}(h8:rows.length<=8)(w8:w<=8):(cI rows w).length<=64:=by
 have e:=Ek List.length (vG rows w);rw[Dp]at e;rw[<- e];refine Eh (ip rows w rows.length) ?_;exact Nat.mul_le_mul h8 w8
theorem vF{rows:List Str}{w:Nat}{q:Int×Int}(h:q∈cI rows w):∃r c:Nat,q=((r:Int),(c:Int))/\r<rows.length/\c<w/\cd rows r c=120:=by
 unfold cI at h;rw[List.mem_flatMap]at h;obtain⟨r,hr,hq⟩:=h;obtain⟨c,hc,rfl⟩:=Dv.mp hq;rw[EW,Eb,beq_iff_eq]at hc;rw[Eb]at hr;exact⟨r,c,rfl,hr,hc.1,hc.2⟩
noncomputable def apart(f q:Int×Int):Bool:= !decide (q.1=f.1)&& !decide (q.2=f.2)
structure Drawn(rows:List Str)(w:Nat)(fs:List (Int×Int)):Prop where
 cell:∀q∈fs,q∈cI rows w
 rowd:(fs.map (·.1)).Nodup
 cold:(fs.map (·.2)).Nodup
noncomputable def left(rows:List Str)(w:Nat)(fs:List (Int×Int)):List (Int×Int):=(cI rows w).filter fun q=>fs.all fun f=>apart f q
theorem jc(rows:List Str)(w:Nat)(fs:List (Int×Int))(f:Int×Int):(left rows w fs).filter (apart f)=left rows w (fs++[f]):=by
 unfold left;rw[List.filter_filter];refine List.filter_congr fun q _=> ?_;rw[List.all_append,Bool.and_comm];simp
theorem Drawn.next{rows:List Str}{w:Nat}{fs:List (Int×Int)}{f:Int×Int}(h:Drawn rows w fs)(hf:f∈left rows w fs):Drawn rows w (fs++[f]):=by
 obtain⟨h1,h2⟩:=EW.mp hf;rw[EG]at h2;have h3:∀x∈fs,f.1≠x.1/\f.2≠x.2:=fun x hx=>by
  have:=h2 x hx;unfold apart at this
  simpa using this
 refine⟨fun q hq=> ?_,?_,?_⟩
 ·rcases EL.mp hq with z|z
  ·exact h.cell q z
  ·rw[Ee.mp z]
   exact h1
 ·rw[EF,Er]
  refine⟨h.rowd,by simp,fun a ha b hb=> ?_⟩;obtain⟨x,hx,rfl⟩:=Dv.mp ha;rw[List.map_singleton,Ee]at hb;subst hb;exact fun e=>(h3 x hx).1 e.symm
 ·rw[EF,Er]
  refine⟨h.cold,by simp,fun a ha b hb=> ?_⟩;obtain⟨x,hx,rfl⟩:=Dv.mp ha;rw[List.map_singleton,Ee]at hb;subst hb;exact fun e=>(h3 x hx).2 e.symm
theorem Drawn.len{rows:List Str}{w:Nat}{fs:List (Int×Int)}(h8:rows.length<=8)(h:Drawn rows w fs):fs.length<=8:=by
 have:=tk8 h.rowd fun x hx=>by
  obtain⟨q,hq,rfl⟩:=Dv.mp hx;obtain⟨r,c,rfl,h1,_⟩:=vF (h.cell q hq);show 0<=(r:Int)/\(r:Int)<8;omega
 rw[Dp]at this;exact this
theorem AT{ps:List (Int×Int)}:cS .NotEq (.lst (ps.map bg)) (.lst [])=some (!ps.isEmpty):=by
 have f:∀q:Int×Int,eV 11 (bg q)=true:=fun q=>rfl;rw[xq];have e:(eV 12 (.lst (ps.map bg))&&eV 12 (.lst []))=true:=by
  rw[Du];refine⟨?_,rfl⟩;show(ps.map bg).all (eV 11)=true;rw[EG];intro y hy;obtain⟨q,_,rfl⟩:=Dv.mp hy;exact f q
 rw[D3 e];cases ps<;>rfl
theorem BU{ps:List (Int×Int)}{t:Int}(h0:0<=t)(h1:t<ps.length):∃q,cf (ps.map bg) t=some (bg q)/\q∈ps:=by
 obtain⟨e,h2,h3⟩:=yJ (l:=ps.map bg) h0 (by rw[Dp];exact h1);obtain⟨q,hq,rfl⟩:=Dv.mp h3;exact⟨q,h2,hq⟩
theorem c124(k:Nat)(rows:List Str)(w:Nat)(D:Int)(h8:rows.length<=8)(w8:w<=8):∃v,aI P (k+1) 124 [.lst ((cI rows w).map bg),.int D]=some v/\∃fs,v=.lst (fs.map bg)/\Drawn rows w fs:=by
 refine jQ rfl rfl ?_;simp only[BD,entry];have hcl:=BN (rows:=rows) h8 w8;walk_at "ev";have hl0:left rows w []=cI rows w:=List.filter_eq_self.mpr fun q _=>rfl;obtain⟨s,hs⟩:∃s,s=D/2%9:=⟨_,rfl⟩;obtain⟨nr,hnr⟩:∃nr,nr=D%2:=⟨_,rfl⟩;rw[<- hs,<-hnr];refine B2 (fun m τ=>∃fs D n a b,τ=[.frz (.lst ((cI rows w).map bg)) false,.frz (.int D) true,.frz (.int s) true,.frz (.int nr) true,.own (fs.map bg) true,.frz (.lst ((left rows w fs).map bg)) n,a,b]/\Drawn rows w fs/\(left rows w fs).length<=m) (cI rows w).length (by omega) ⟨[],D/18,false,.un,.un,by rw[hl0];rfl,⟨fun q hq=>(by cases hq),.nil,.nil⟩,by rw[hl0];exact Dx _⟩ ?_;rintro m τ ⟨fs,D,n,a,b,rfl,dr,hm⟩;have hfl:=dr.len h8;have hll:(left rows w fs).length<=(cI rows w).length:=FT _ _;refine⟨!(left rows w fs).isEmpty&&decide ((fs.length:Int)<s),?_,fun hb=> ?_,fun hb=> ?_⟩
 ·walk_at "ev"
  rw[AT];cases(left rows w fs).isEmpty with
  | true=>walk_at "ev"
  | false =>
   walk_at "ev";rw[Dp]
 ·rw[Du]at hb
  have hne:0<(left rows w fs).length:=by
   have:=hb.1;cases e:left rows w fs with
   | nil=>rw[e]at this;cases this
   | cons x l=>rw[ED];omega
  refine⟨by omega,?_⟩;have hlz:(0:Int)<((left rows w fs).length:Int):=by omega
  have fin:∀t:Int,0<=t->t<(left rows w fs).length->To (bC (aI P k) 1000000 (.cons (.asg 7 false [] (.ix (.var 5) (.var 6))) (.cons (.asg 1 false [] (.bin .FloorDiv (.var 1) (.con (.int 64)))) (.cons (.app 4 [7] (.var 7)) (.cons (.asg 5 false [] (.lc (.var 0) (.seq (.var 5)) (.yes (.and (.val (.cmp .NotEq (.ix (.var 0) (.con (.int 0))) (.ix (.var 1) (.con (.int 0))))) (.val (.cmp .NotEq (.ix (.var 0) (.con (.int 1))) (.ix (.var 1) (.con (.int 1))))))) [7])) .nil)))) [.frz (.lst ((cI rows w).map bg)) false,.frz (.int D) true,.frz (.int s) true,.frz (.int nr) true,.own (fs.map bg) true,.frz (.lst ((left rows w fs).map bg)) n,.frz (.int t) true,b]) fun f=>∃τ2,f=.nx τ2/\∃fs D n a b,τ2=[.frz (.lst ((cI rows w).map bg)) false,.frz (.int D) true,.frz (.int s) true,.frz (.int nr) true,.own (fs.map bg) true,.frz (.lst ((left rows w fs).map bg)) n,a,b]/\Drawn rows w fs/\(left rows w fs).length<=m-1:=by
   intro t t0 t1;obtain⟨q,hq1,hq2⟩:=BU t0 t1;have iq:imm (bg q)=true:=rfl;walk_at "ev";rw[hq1];walk_at "ev";rw[iq,Bool.or_true,ci rfl (by rw[Dp];show fs.length<16777216;omega)];walk_at "ev";rw[D3 (by rw[Dp];omega)];rw[br (p:=apart q) (g:=bg) fun x hx=> ?hf]
   case hf =>
    unfold apart bg;walk_at "ev";cases decide (x.1=q.1)<;>cases decide (x.2=q.2)<;>rfl
   walk_at "ev";rw[jc];have e1:fs.map bg++[bg q]=(fs++[q]).map bg:=by rw[EF];rfl
   rw[e1];refine⟨_,rfl,_,_,_,_,_,rfl,dr.next hq2,?_⟩;have lt:(left rows w (fs++[q])).length<(left rows w fs).length:=by
    rw[<- jc];refine List.length_filter_lt_length_iff_exists.mpr ⟨q,hq2,?_⟩;unfold apart;simp
   omega
  walk_at "ev";rw[Dp,D3 hlz];walk_at "ev"
  by_cases h1:nr=1
  ·rw[EX h1,D3 rfl,Dp]
   have:D%2=0\/D%2=1:=by omega
   rcases this with e|e
   ·rw[e]
    exact fin 0 (Fh _) hlz
   ·rw[e]
    exact fin (((left rows w fs).length:Int)-1) (by omega) (by omega)
  ·rw[EV h1,Dz Dy]
   exact fin _ (Int.emod_nonneg _ (by omega)) (F4 _ hlz)
 ·walk_at "ev"
  exact⟨_,rfl,fs,rfl,dr⟩
theorem c4(k:Nat)(ns:List Int)(j:Nat):aI P (k+1) 4 [.lst (ns.map .int),.int j]=some (.int (ns.getD j 0)):=by
 refine run rfl rfl ?_;simp only[d4,entry];walk_at "ev"
 by_cases h:j<ns.length
 ·have h1:(j:Int)<((ns.map PV.int).length:Nat):=by rw[Dp];omega
  have h2:cf (ns.map PV.int) (j:Int)=some (.int ns[j]):=bE (by rw[D7,Dw h];rfl);simp only[h1,decide_true,if_true,h2];walk_at "ev";simp[h]
 ·have h1:¬(j:Int)<((ns.map PV.int).length:Nat):=by rw[Dp];omega
  simp only[h1,FP];walk_at "ev";simp[h]
theorem c5(k:Nat)(c j:Int)(h0:0<=j)(h1:j<=1000000):∃r:Int,0<=r/\r<2147483587/\aI P (k+1) 5 [.int c,.int j]=some (.int r):=by
 obtain⟨v,h,r,h2,h3,rfl⟩:∃v,aI P (k+1) 5 [.int c,.int j]=some v/\∃r:Int,0<=r/\r<2147483587/\v=.int r:=by
  refine jQ rfl rfl ?_;simp only[d5,entry];walk_at "go";exact⟨_,rfl,_,Int.emod_nonneg _ (by decide),F4 _ (by decide),rfl⟩
 exact⟨r,h2,h3,h⟩
noncomputable def nJ(z:Str)(n:Nat):Prop:=z.length=n/\∀c∈z.cps.toList,c=120\/c=46
theorem nJ.more{z:Str}{n:Nat}(h:nJ z n){y:Str}(hy:y=("x":Str)\/y=(".":Str)):nJ (z++y) (n+1):=by
 refine⟨?_,fun c hc=> ?_⟩
 ·rw[PySem.Str.length_append,h.1]
  rcases hy with rfl|rfl<;>rfl
 ·rw[PySem.Str.cps_append,Array.toList_append,EL]at hc
  rcases hc with hc|hc
  ·exact h.2 c hc
  ·rcases hy with rfl|rfl
   ·have:c∈[120]:=hc
    simp at this;exact .inl this
   ·have:c∈[46]:=hc
    simp at this;exact .inr this
noncomputable def pick(b:Bool):Str:=if b then "x" else "."
theorem wf(b:Bool):cf [PV.str ".",PV.str "x"] (if b then 1 else 0)=some (.str (pick b)):=by cases b<;>rfl
theorem tT(b:Bool):(pick b).length=1:=by cases b<;>rfl
theorem qV(b:Bool):pick b=("x":Str)\/pick b=(".":Str):=by cases b;exact .inr rfl;exact .inl rfl
theorem zt{j:Int}(h0:0<=j)(h1:j<=100):(0:Int)<1*2^j.toNat/\(1:Int)*2^j.toNat<2^200:=by
 have hp:(0:Int)<2^j.toNat:=Int.pow_pos (by decide);refine⟨by omega,?_⟩;have h2:(2:Nat)^j.toNat<2^200:=Nat.pow_lt_pow_right (by decide) (by omega);rw[Int.one_mul]
 exact_mod_cast h2
noncomputable abbrev bI1(x c R C TH:Int)(m i:Nat)(τ:En):Prop:=∃(rs:List Str)(a b d e g:TV),τ=[.frz (.int x) true,.frz (.int c) true,.frz (.int m) true,.frz (.int R) true,.frz (.int C) true,.frz (.int TH) true,.own (rs.map .str) true,a,b,d,e,g]/\rs.length=i/\∀r∈rs,nJ r C.toNat
noncomputable abbrev bI2(x c R C TH:Int)(m:Nat)(rs:List Str)(i:Int)(j:Nat)(τ:En):Prop:=∃(z:Str)(d e g:TV),τ=[.frz (.int x) true,.frz (.int c) true,.frz (.int m) true,.frz (.int R) true,.frz (.int C) true,.frz (.int TH) true,.own (rs.map .str) true,.frz (.int i) true,.frz (.str z) true,d,e,g]/\nJ z j
theorem c6(k:Nat)(x c:Int)(m:Nat)(m1:1<=m)(m8:m<=8):∃v,aI P (k+2) 6 [.int x,.int c,.int m]=some v/\∃rows:List Str,UM.Dm m rows/\v=.tup (rows.map .str):=by
 have r1:0<=x%(m:Int):=Int.emod_nonneg _ (by omega);have r2:x%(m:Int)<m:=F4 _ (by omega);have q1:0<=x/8%(m:Int):=Int.emod_nonneg _ (by omega);have q2:x/8%(m:Int)<m:=F4 _ (by omega);have hm:(0:Int)<m:=by omega
 refine jQ rfl rfl ?_;simp only[d6,entry];walk_at "go";obtain⟨R,hR⟩:∃R,R=1+x%(m:Int):=⟨_,rfl⟩;obtain⟨C,hC⟩:∃C,C=1+x/8%(m:Int):=⟨_,rfl⟩;obtain⟨TH,hT⟩:∃TH,TH=1+x/64%8:=⟨_,rfl⟩;rw[<- hR,<-hC,<-hT];refine eC (xs:=(List.range R.toNat).map fun i=>.int (0+(i:Nat))) (n:=true) ?_ (bI1 x c R C TH m) ?_ ?_ ?_
 ·walk_at "ev"
  simp only[hJ,bc];rw[D3 ⟨by omega,by omega⟩];rfl
 ·exact⟨[],.un,.un,.un,.un,.un,rfl,rfl,fun r hr=>by cases hr⟩
 ·rintro i y τ hy ⟨rs,a,b,d,e,g,rfl,hl,hsg⟩
  obtain⟨hi,rfl⟩:=dU hy;refine⟨_,rfl,?_⟩;walk_at "ev";refine eC (xs:=(List.range C.toNat).map fun i=>.int (0+(i:Nat))) (n:=true) ?_ (bI2 x c R C TH m rs i) ?_ ?_ ?_
  ·walk_at "ev"
   simp only[hJ,bc];rw[D3 ⟨by omega,by omega⟩];rfl
  ·exact⟨_,d,e,g,rfl,rfl,fun c hc=>by cases hc⟩
  ·rintro j y τ hy ⟨z,d,e,g,rfl,hz⟩
   obtain⟨hj,rfl⟩:=dU hy;refine⟨_,rfl,?_⟩;have hp:0<=C*(i:Int)+(j:Int)/\C*(i:Int)+(j:Int)<=100:=by
    have e1:(0:Int)<=C*(i:Int):=Int.mul_nonneg (by omega) (by omega);have e2:C*(i:Int)<=8*8:=Int.mul_le_mul (by omega) (by omega) (by omega) (by omega);omega
   have hz1:=hz.1;have hzL:∀b,z.length+(pick b).length<=LN:=fun b=>by rw[tT];show z.length+1<=16777216;omega
   have hp2:=zt hp.1 hp.2;walk_at "go"
   have fin:∀(b:Bool)(τ:En),τ=[.frz (.int x) true,.frz (.int c) true,.frz (.int m) true,.frz (.int R) true,.frz (.int C) true,.frz (.int TH) true,.own (rs.map .str) true,.frz (.int i) true,.frz (.str z) true,.frz (.int j) true,.frz (.int (C*(i:Int)+(j:Int))) true,.frz (.bl b) true] ->
     To (bC (aI P (k+1)) 1000000 (.cons (.asg 8 false [] (.bin .Add (.var 8) (.ix (.lst (.cons (.con (.str ".")) (.cons (.con (.str "x")) .nil))) (.bf .int (.cons (.var 11) .nil))))) .nil) τ) fun f=>match f with
      | .nx τ2=>bI2 x c R C TH m rs i (j+1) τ2
      | _=>False:=by
    rintro b τ rfl;have:=hzL b;walk_at "go";rw[wf];walk_at "go";exact⟨_,_,_,_,rfl,hz.more (qV b)⟩
   split
   ·obtain⟨q,b1,b2,e5⟩:=c5 k c (C*(i:Int)+(j:Int)) hp.1 (by omega)
    walk_at "ev";rw[e5];walk_at "go";refine(fin _ _ rfl).imp fun f h=> ?_;cases f<;>first|exact h|exact h.elim
   ·walk_at "ev"
    refine(fin _ _ rfl).imp fun f h=> ?_;cases f<;>first|exact h|exact h.elim
  ·rintro τ ⟨z,d,e,g,rfl,hz⟩
   rw[gl]at hz;walk_at "ev";rw[ci rfl (by rw[Dp];show rs.length<16777216;omega)];walk_at "ev";refine⟨rs++[z],_,_,_,_,_,by rw[EF];rfl,by rw[EC,hl];rfl,fun r hr=> ?_⟩
   rcases EL.mp hr with h|h
   ·exact hsg r h
   ·have e' :r=z:=by simpa using h
    rw[e'];exact hz
 ·rintro τ ⟨rs,a,b,d,e,g,rfl,hl,hsg⟩
  rw[gl]at hl;walk_at "ev";refine⟨_,rfl,rs,⟨?_,by omega,⟨C.toNat,by omega,by omega,fun r hr=>(hsg r hr).1⟩,fun r hr=>(hsg r hr).2⟩,rfl⟩;intro z;rw[z]at hl;simp at hl;omega
theorem c7(k:Nat)(rows:List Str)(w:Nat)(hw:Wd rows w)(h0:rows≠[])(h8:rows.length<=8)(w8:w<=8):aI P (k+1) 7 [.tup (rows.map .str)]=some (.lst (ir rows w rows.length)):=by
 refine eo rfl rfl ?_;have im:=iU rows;have ims:=bW rows;simp only[d7,entry];walk_at "go";obtain⟨z0,hz0⟩:∃z,rows[0]? =some z:=by
  cases rows with
  | nil=>exact absurd rfl h0
  | cons z r=>exact⟨z,rfl⟩
 have l0:z0.length=w:=hw z0 (EE hz0);have a0:cf (rows.map PV.str) 0=some (.str z0):=nX (i:=0) hz0;rw[ims];refine eC (xs:=(List.range rows.length).map fun i=>.int (0+(i:Nat))) (n:=true) ?_ (fun i τ=>∃a b,τ=[.frz (.tup (rows.map .str)) true,.own (ir rows w i) true,a,b]) ⟨_,_,rfl⟩ ?_ ?_
 ·walk_at "ev"
  simp only[hJ,bc,Dp];rw[D3 ⟨by omega,by omega⟩];rfl
 ·rintro i y τ hy ⟨a,b,rfl⟩
  obtain⟨hi,rfl⟩:=dU hy;refine⟨_,rfl,?_⟩;walk_at "ev";refine eC (xs:=(List.range w).map fun i=>.int (0+(i:Nat))) (n:=true) ?_ (fun j τ=>∃b,τ=[.frz (.tup (rows.map .str)) true,.own (ir rows w i++hE rows i j) true,.frz (.int i) true,b]) ⟨b,by simp[hE,mZ]⟩ ?_ ?_
  ·walk_at "ev"
   rw[a0];walk_at "ev";rw[len_str,D3 (by rw[l0];show w<=16777216;omega)];walk_at "ev";simp only[hJ,bc,l0];rw[D3 ⟨by omega,by omega⟩];rfl
  ·rintro j y τ hy ⟨b,rfl⟩
   obtain⟨hj,rfl⟩:=dU hy;refine⟨_,rfl,?_⟩;obtain⟨z,g1,g2,g3⟩:=DF hw hi hj;walk_at "ev";rw[nX g1];walk_at "ev";rw[D3 (by rw[g3];show w<=16777216;omega),bE g2];walk_at "ev";rw[oY];have hlen:(ir rows w i++hE rows i j).length<LN:=by
    rw[EC];have e1:=ip rows w i;have e2:=lq rows i j;have e3:i*w<=8*8:=Nat.mul_le_mul (by omega) w8;show _<16777216;omega
   have rs:=qR rows i j;cases hc:cd rows i j==120 with
   | true =>
    rw[hc]at rs;walk_at "go";rw[ci rfl hlen];walk_at "ev";exact⟨.frz (.int j) true,by rw[rs];simp[vC]⟩
   | false =>
    rw[hc]at rs;walk_at "ev";exact⟨.frz (.int j) true,by rw[rs];simp⟩
  ·rintro τ ⟨b,rfl⟩
   rw[gl];walk_at "ev";exact⟨_,_,by rw[jx]⟩
 ·rintro τ ⟨a,b,rfl⟩
  rw[gl];walk_at "ev"
theorem c20(k:Nat)(c:Int):∃v,aI P (k+2) 20 [.int c]=some v/\∃d:Int,0<=d/\v=.int d:=by
 refine jQ rfl rfl ?_;simp only[d20,entry];walk_at "go"
 split
 ·rename_i h
  walk_at "ev";refine⟨_,rfl,_,?_,rfl⟩;have h:=Eg h;omega
 ·walk_at "ev"
  refine eC (xs:=(List.range 8).map fun i=>.int (0+(i:Nat))) (n:=true) ?_ (fun i τ=>∃(d:Int)(b:TV),τ=[.frz (.int c) true,.frz (.int d) true,b]/\0<=d) ?_ ?_ ?_
  ·rfl
  ·exact⟨0,.un,rfl,by omega⟩
  ·rintro i y τ hy ⟨d,b,rfl,hd⟩
   obtain⟨hi,rfl⟩:=dU hy;refine⟨_,rfl,?_⟩;obtain⟨q,b1,b2,e5⟩:=c5 k c (7*(i:Int)+3) (by omega) (by omega);walk_at "go";rw[e5];walk_at "go";exact⟨_,_,rfl,by omega⟩
  ·rintro τ ⟨d,b,rfl,hd⟩
   walk_at "ev";exact⟨_,rfl,d,hd,rfl⟩
section
open PySem.Spec PyProof.Rows
theorem CQ:aY N47 ["levels","bits"] (aA Bq):=⟨rfl,rfl,rfl,by decide +kernel,rfl,by decide +kernel,by decide +kernel⟩
theorem sH{P' :Nat->Option FD}{k:Nat}{vs:List PV}{r:PV}(hP:P' 47=some Bu)(h:aI P' (k+1) 47 vs=some r):bG vs=some r:=by
 unfold aI at h;rw[hP]at h;simp only[Ei]at h
 split at h
 ·rename_i hl
  have hl:vs.length=2:=hl;obtain⟨a,b,rfl⟩:=kT hl
  ·simp only[Bu,vW,vX,gU,gK,gJ,gN,gP,gI,gL,gS,gR,gW,gQ,gT,gO,gM,entry]at h
   have e:((List.map (fun v=>TV.frz v (imm v)) [a,b]++List.replicate (9-[a,b].length) TV.un).take 2).map TV.valD=[a,b]:=rfl;rw[e]at h;cases hg:bG [a,b]with
   | none=>rw[hg]at h;cases h
   | some v=>rw[hg]at h;cases h;rfl
 ·cases h
theorem zA{vs:List PV}{r:PV}(h:bG vs=some r):vs.length=2:=by
 unfold bG at h
 split at h
 ·rfl
 ·cases h
theorem Av{K:W.Frag}{mg:Str->Option Value}{f:Addr}{fd:FuncData}(hdi:mg "dict"=none)(hen:mg "enumerate"=none)(D:Bl K mg "with_line" Bq ["levels","bits"] f fd)(p:Program)(w:World)(base:Heap)(k:Nat)(_:∀y g,F.lookup y=some g->∃b gd qs,mg y=some (.ref b)/\W.keepIn K (.ref b)=true/\Binds K gd qs []/\bP p w K mg base jK k b gd qs (ve K (aI P k g))):bP p w K mg base jK (k+1) f fd ["levels","bits"] (ve K (aI P (k+1) 47)):=by
 refine D.fn.ok CQ (fun vs H Q E h=> ?_) (fun cdv A outer s H vs Q E hr h=> ?_)
 ·obtain⟨pvs,r,h1,h2,_⟩:=h
  rw[<- h1.len];exact zA (sH rfl h2)
 obtain⟨pvs,r,h1,h2,q⟩:=h
 replace h2:=sH rfl h2
 unfold bG at h2
 split at h2
 case h_2=>cases h2
 rename_i ls bs;cases e1:lb ls with
 | none=>rw[e1]at h2;cases h2
 | some Ls =>
 cases e2:aP bs with
 | none=>rw[e1,e2]at h2;cases h2
 | some B =>
 rw[e1,e2]at h2;dsimp only[Option.bind]at h2
 split at h2
 case isFalse=>cases h2
 rename_i hz;cases h2;obtain⟨z1,z2,z3⟩:=hz;have z3:∀c∈Ls,c.length<=1000:=fun c hc=>by simpa using EG.mp z3 c hc
 have hls:=la e1;subst hls;unfold aF at h1;obtain⟨u1,_,rfl,r1,h1⟩:=h1;unfold aF at h1;obtain⟨u2,_,rfl,r2,h1⟩:=h1;unfold aF at h1;subst h1;obtain⟨Lv,us,rfl,_,sqL,rl⟩:=Rp.lst.mp r1;obtain⟨Bt,bu,rfl,_,sqB,rb⟩:=Rp.lst.mp r2;rw[eM e2]at rb;have eb:=aF.ints.mp rb;subst eb;have lv:∀(i:Nat)(c:aL),Ls[i]? =some c->∃a,us[i]? =some (.ref a)/\H a=some (.dK (al c)):=fun i c hc=>by
  obtain⟨u,hu,ru⟩:=rl.at (i:=i) (x:=dP c) (by rw[D7,hc];rfl);obtain⟨a,rfl,ha⟩:=zd ru;exact⟨a,hu,ay _ _ ha⟩
 have ulen:us.length=Ls.length:=by have:=rl.len;simpa using this.symm
 have nd:=CQ.nd;have hu:=yk hr;have hs:sizeLine=16777216:=Ej
 refine⟨_,bL (hX (i:=2) nd rfl (Or.inl rfl) (iD AH (tj (N' :=["level"]) (src:=[none]) rfl (dj (pv 0)) True.intro rfl (by decide +kernel) (by decide +kernel) rfl) (tf (aT fF av))))
  (bL (fi FM rfl (mE rfl hen (aT (pv 0) av)) (iC rfl (bM (aq (i:=3) nd rfl (Or.inl rfl)) (bM (aq (i:=4) nd rfl (Or.inl rfl)) fE)))
   (bL (hX (i:=5) nd rfl (Or.inl rfl) (tm fK (pv 2) (iD oB (pv 3) fj) (fun _ _=>rfl)))
   (bK (wU (fi FM rfl (mL (pv 4)) (iC rfl (bM (aq (i:=6) nd rfl (Or.inl rfl)) (bM (aq (i:=7) nd rfl (Or.inl rfl)) fE)))
    (bK (fi FM rfl (dj (pv 1)) (aq (i:=8) nd rfl (Or.inl rfl))
     (bK (pM (pL yf (iD AI (pv 6) (pv 8)) fj (AR _))
      (bK (kM hu (pv 5) (iD ye (pv 6) (pv 8)) (iD oB (tu hu (pv 5) (iD ye (pv 6) (pv 8)) fj ⟨rfl,rfl,rfl,rfl⟩) (pv 7)) rfl)) gm)))))))))
  (bK (hZ (pv 2)))),?_⟩
 refine⟨_,rfl,Lv,rfl,⟨_,sqL⟩,fun D0 hD0=> ?_⟩;refine⟨fun i m ys H' =>m=Ls.length-i/\i<=Ls.length/\∃ds,ys=ds.map V.ref/\nR H D0 ds (Ls.take i) H',⟨Ls.length,by simp,EY _,[],rfl,⟨aJ hD0 _,hD0,aD,by simp,by simp,by simp,fun q d c e=>by simp at e⟩⟩,?_⟩;rintro i m ys H' ⟨rfl,hi,ds,rfl,st⟩
 by_cases hlt:i<Ls.length
 ·right
  have ec:Ls[i]? =some Ls[i]:=by simp[hlt]
  obtain⟨a,ua,ha⟩:=lv i _ ec;refine⟨⟨us,.ref a,st.1.seq sqL,ua⟩,fun x H1 y=> ?_⟩;obtain⟨rfl,y⟩:=y;have ex:=y us (st.1.seq sqL);rw[ua]at ex;cases ex;intro C s2 H2 fp cl;refine⟨mY 0,sf,_,aq (by simp) rfl (.inl rfl) (.inr rfl),fD,fk nC rfl hdi boot_dict (aT (pv 0) av),?_⟩;refine⟨nG rfl,?_⟩;refine⟨_,rfl,a,_,rfl,.inl (st.1 _ _ ha),fun pn hpn=> ?_⟩;have dl:ds.length=i:=by rw[st.2.2.2.2.2.1,FN];omega
  refine⟨by rw[aB (aG st.2.2.1 hpn)];exact st.2.2.1,by rw[Dp];omega,Ls.length-(i+1),by omega,rfl,hlt,ds++[pn],by rw[EF];rfl,?_⟩;have e:Ls.take (i+1)=Ls.take i++[Ls[i]]:=by rw[FJ,ec];rfl
  rw[e];exact st.push hpn
 ·left
  have ei:i=Ls.length:=by omega
  subst ei;rw[Es]at st;refine⟨⟨us,st.1.seq sqL,by omega⟩,?_⟩;intro p0 hp0;refine⟨by show 1<=sizeLine;decide,fun l hl=> ?_⟩;have dl:ds.length=Ls.length:=st.2.2.2.2.2.1;have s1:=aJ hp0 (.dK []);have s2:=aJ hl (.lst [.ref p0]);refine⟨D0,l,ds.map V.ref,[.ref p0],rfl,rfl,s2 _ _ (s1 _ _ st.2.2.1),aD,by rw[Dp,dl,hs];simp;omega,fun Aa hAa=> ?_⟩;have stA:nR H Aa (ds++[p0]) (wl Ls B 0) (L2.upd (L2.upd (L2.upd H' p0 (.dK [])) l (.lst [.ref p0])) Aa (.lst (ds.map V.ref++[.ref p0]))):=by
   have hDp:D0≠p0:=aG st.2.2.1 hp0;have hAl:Aa≠l:=fun z=>by rw[z,aD]at hAa;cases hAa
   have hA1:L2.upd H' p0 (.dK []) Aa=none:=by rw[aB hAl]at hAa;exact hAa
   have hAp:Aa≠p0:=fun z=>by rw[z,aD]at hA1;cases hA1
   have hA0:H' Aa=none:=by rw[aB hAp]at hA1;exact hA1
   have hDA:D0≠Aa:=aG st.2.2.1 hA0;obtain⟨g1,g2,g3,g4,g5,g6,g7⟩:=st.push (p:=p0) (c:=[]) hp0;have hlD:l≠D0:=fun z=>by rw[z,aB hDp,st.2.2.1]at hl;cases hl
   have hlp:l≠p0:=fun z=>by rw[z,aD]at hl;cases hl
   have inn:∀(qq:Nat)(d:Addr)(c:aL),(ds++[p0])[qq]? =some d->(Ls++[[]])[qq]? =some c->H d=none/\d≠Aa/\d≠l/\L2.upd H' p0 (.dK []) d=some (.dK (al c)):=fun qq d c w1 w2=>by
    obtain⟨m0,m1⟩:=g7 qq d c w1 w2;have dD:d≠D0:=fun z=>g4 (z▸EE w1);rw[aB dD]at m1;have m1:L2.upd H' p0 (.dK []) d=some (.dK (al c)):=m1;exact⟨m0,(fun z=>by rw[z,hA1]at m1;cases m1),(fun z=>by rw[z,hl]at m1;cases m1),m1⟩
   refine⟨((st.1.trans s1).trans s2).trans (aJ hAa _),st.1.free hA0,by rw[aD,EF];rfl,fun z=> ?_,g5,g6,fun qq d c w1 w2=> ?_⟩
   ·obtain⟨qq,hqq,e⟩:=Fu.mp z
    exact(inn qq Aa ((Ls++[[]])[qq]'(by rw[<- g6];exact hqq)) (by rw[Dw hqq,e]) (by simp[show qq<(Ls++[[]]).length by rw[<- g6];exact hqq])).2.1 rfl
   ·obtain⟨m0,m1,m2,m3⟩:=inn qq d c w1 w2
    exact⟨m0,by rw[aB m1,aB m2];exact m3⟩
  have sqB' :∀{G:Hp},aC H G->bJ K G Bt (B.map V.int):=fun s=>s.seq sqB;refine⟨_,rfl,Lv,us,rfl,(stA.1).seq sqL,ui (src:=fun H xs=>bJ K H Lv xs) (fun i σ G=>∃a b c d e g,σ=[some (.ref Lv),some (.ref Bt),some (.ref Aa),a,b,c,d,e,g]/\nR H Aa (ds++[p0]) (wl Ls B i) G) ⟨_,_,_,_,_,_,rfl,stA⟩ (fun i σ G _ ⟨_,_,_,_,_,_,_,st⟩=>st.1.seq sqL) ?_ ?_⟩
  ·rintro i x pt σ G ex hpt ⟨a,b,c,d,e,g,rfl,st⟩
   have hi:i<us.length:=(D1.mp ex).1;have ec:Ls[i]? =some (Ls[i]'(by omega)):=by simp[show i<Ls.length by omega]
   obtain⟨lev,ua,hlev⟩:=lv i _ ec;rw[ex]at ua;cases ua;obtain⟨ct,hct⟩:∃ct,ct=Ls[i]'(by omega):=⟨_,rfl⟩;rw[<- hct]at ec hlev;have ctl:ct.length<=1000:=z3 ct (EE ec);have wlen:=jz Ls B i;obtain⟨ab,hab⟩:∃ab,(ds++[p0])[i+1]? =some ab:=⟨(ds++[p0])[i+1]'(by rw[st.2.2.2.2.2.1,wlen];omega),by simp[show i+1<(ds++[p0]).length by rw[st.2.2.2.2.2.1,wlen];omega]⟩;obtain⟨c0,hc0⟩:∃c0,(wl Ls B i)[i+1]? =some c0:=⟨(wl Ls B i)[i+1]'(by rw[wlen];omega),by simp[show i+1<(wl Ls B i).length by rw[wlen];omega]⟩;have st:=st.ext (aJ hpt (.tup [.int (i:Nat),.ref lev]));refine⟨pt,_,rfl,cJ.of aD,rfl,_,_,rfl,_,_,rfl,rfl,?_⟩;refine⟨_,rfl,_,rfl,_,_,rfl,rfl,Aa,_,_,.ref ab,rfl,rfl,bJ.of st.2.2.1,?_,?_⟩
   ·have:=bE (xs:=(ds++[p0]).map V.ref) (j:=i+1) (v:=.ref ab) (by rw[D7,hab];rfl)
    exact this
   refine⟨_,rfl,lev,al ct,rfl,st.1 _ _ hlev,fun o nf=> ?_⟩;have abn:H ab=none:=(st.at hab hc0).1;have abl:ab≠lev:=fun z=>by rw[z,hlev]at abn;cases abn
   obtain⟨G1,hG1⟩:∃G1,G1=L2.upd G pt (.tup [.int (i:Nat),.ref lev]):=⟨_,rfl⟩;rw[<- hG1]at st ⊢;have g1lev:G1 lev=some (.dK (al ct)):=st.1 _ _ hlev;have ini:L2.upd (L2.upd G1 lev (.frz o (.dK (al ct)))) lev (.dK (al ct))=G1:=by
    rw[vq]
    funext bb
    by_cases hb:bb=lev
    ·subst hb
     rw[aD,g1lev]
    ·rw[aB hb]
   refine qx (fun j σ G=>∃d e g,σ=[some (.ref Lv),some (.ref Bt),some (.ref Aa),some (.int (i:Nat)),some (.ref lev),some (.ref ab),d,e,g]/\G lev=some (.frz o (.dK (al ct)))/\nR H Aa (ds++[p0]) ((wl Ls B i).set (i+1) ((ct.take j).foldl (bj B) c0)) (L2.upd G lev (.dK (al ct)))) ⟨_,_,_,rfl,aD,?_⟩ (fun j σ G _ ⟨_,_,_,_,hf,_⟩=>hf) ?_ ?_
   ·rw[ini]
    have e0:(wl Ls B i).set (i+1) c0=wl Ls B i:=by
     refine F7 fun n=> ?_;rw[F6]
     split
     ·rename_i en
      subst en;rw[hc0,D3 (by rw[wlen];omega)]
     ·rfl
    rw[List.take_zero,List.foldl_nil,e0];exact st
   ·rintro j kk xx pp σ G2 ekv hpp ⟨d,e,g,rfl,hf,st2⟩
    obtain⟨tk,cn,etc,rfl,rfl⟩:=xg ekv;have hj:j<ct.length:=(D1.mp etc).1;have ppl:pp≠lev:=fun z=>by rw[z,hf]at hpp;cases hpp
    refine⟨pp,_,rfl,cJ.of aD,rfl,_,_,rfl,_,_,rfl,rfl,?_⟩;have st3:=st2.ext (qP (o:=.tup [kV (Sum.inl tk),.int cn]) (u:=.dK (al ct)) hpp ppl);obtain⟨cj,hcj⟩:∃cj,cj=(ct.take j).foldl (bj B) c0:=⟨_,rfl⟩;rw[<- hcj]at st3;have cjl:cj.length<=1000+1000*100+1000*100:=by
     have h0:c0.length<=1000:=by
      have:=yR Ls B i (i+1) (by omega);rw[hc0]at this
      rcases EL.mp (EE this.symm)with hm|hm
      ·exact z3 c0 hm
      ·have:c0=[]:=by simpa using hm
       rw[this];simp
     have h1:=jh B (ct.take j) c0;have h2:(ct.take j).length*B.length<=1000*100:=Nat.mul_le_mul (by rw[FN];omega) z2;rw[hcj];omega
    refine⟨_,rfl,Bt,rfl,⟨_,pG (sqB' st3.1)⟩,ma (xs:=B.map V.int) (fun l σ G=>∃g,σ=[some (.ref Lv),some (.ref Bt),some (.ref Aa),some (.int (i:Nat)),some (.ref lev),some (.ref ab),some (.int tk),some (.int cn),g]/\G lev=some (.frz o (.dK (al ct)))/\nR H Aa (ds++[p0]) ((wl Ls B i).set (i+1) ((B.take l).foldl (bH tk cn) cj)) (L2.upd G lev (.dK (al ct)))) ⟨_,rfl,by rw[aB (Fd ppl)];exact hf,by rw[List.take_zero,List.foldl_nil];exact st3⟩ (fun l σ G _ ⟨_,_,_,st⟩=>pG (sqB' st.1)) ?_ ?_⟩
    ·rintro l xb σ G3 exb ⟨g,rfl,hf3,st4⟩
     obtain⟨b,eb,rfl⟩:∃b,B[l]? =some b/\xb=.int b:=by
      rw[D7]at exb;cases e:B[l]? with
      | none=>rw[e]at exb;cases exb
      | some b=>rw[e]at exb;exact⟨b,rfl,(EJ exb).symm⟩
     have hl:l<B.length:=(D1.mp eb).1;obtain⟨cur,hcur⟩:∃cur,cur=(B.take l).foldl (bH tk cn) cj:=⟨_,rfl⟩;have e7:(B.take (l+1)).foldl (bH tk cn) cj=bH tk cn cur b:=by
      rw[FJ,eb,List.foldl_append,<-hcur];rfl
     rw[<- hcur]at st4;have curl:cur.length<sizeLine:=by
      have:=fr tk cn (B.take l) cj;rw[<- hcur,FN]at this;rw[hs];omega
     have hcs:((wl Ls B i).set (i+1) cur)[i+1]? =some cur:=by rw[Eu (by rw[wlen];omega)]
     obtain⟨_,hab1⟩:=st4.at hab hcs;rw[aB abl]at hab1;refine⟨_,rfl,_,rfl,_,_,rfl,rfl,rfl,_,rfl,ite2 (fun hc=> ?_) (fun hc=> ?_)⟩
     ·have hc:Builtin.bitAnd tk b=0:=V.int.inj (Eg hc)
      obtain⟨old,hold⟩:∃old,old=(af cur (Builtin.bitOr tk b)).getD 0:=⟨_,rfl⟩;refine⟨_,rfl,ab,rfl,.inl ⟨_,.inl hab1⟩,_,rfl,_,rfl,_,_,rfl,rfl,_,d8.k (k:=Sum.inl (Builtin.bitOr tk b)) hab1,_,rfl,old,cn,?_,rfl,?_⟩
      ·rw[kj,hold]
       cases af cur (Builtin.bitOr tk b)<;>rfl
      refine⟨_,rfl,_,rfl,_,rfl,_,_,rfl,rfl,ab,_,rfl,o4.k (k:=Sum.inl (Builtin.bitOr tk b)) hab1 (by rw[mn];exact curl),_,rfl,?_,?_⟩
      ·rw[aB (Fd abl)]
       exact hf3
      ·have e8:bH tk cn cur b=be cur (Builtin.bitOr tk b) (old+cn):=by
        unfold bH rO;rw[D3 hc,hold]
       rw[e7,e8,ki,sM abl];have:=st4.put (c' :=be cur (Builtin.bitOr tk b) (old+cn)) hab;rw[List.set_set]at this;exact this
     ·have hc:¬Builtin.bitAnd tk b=0:=fun z=>hc (EX (Ek V.int z))
      refine⟨_,rfl,hf3,?_⟩;have e8:bH tk cn cur b=cur:=by
       unfold bH;rw[Dz hc]
      rw[e7,e8];exact st4
    ·rintro σ G3 ⟨g,rfl,hf3,st4⟩
     refine⟨_,_,_,rfl,hf3,?_⟩;have e5:(ct.take (j+1)).foldl (bj B) c0=((B.take (B.map V.int).length).foldl (bH tk cn) cj):=by
      rw[FJ,etc,List.foldl_append,<-hcj,Dp,Es];rfl
     rw[e5];exact st4
   ·rintro σ G2 ⟨d,e,g,rfl,hf,st2⟩
    refine⟨lev,o,al ct,hf,nf,_,_,_,_,_,_,rfl,?_⟩;have e6:(wl Ls B i).set (i+1) ((ct.take (al ct).length).foldl (bj B) c0)=wl Ls B (i+1):=by
     rw[mn,Es,wl,Dt,hc0,Dt,ec];rfl
    rw[<- e6];exact st2
  ·rintro σ G ⟨a,b,c,d,e,g,rfl,st⟩
   refine⟨_,rfl,?_⟩;refine q _ _ st.1 (Rp.lst.mpr ⟨Aa,_,rfl,fun _=>⟨st.2.1,st.2.2.1⟩,bJ.of st.2.2.1,?_⟩);have eL:us.length=Ls.length:=ulen;rw[eL]at st;refine lm st.2.2.2.2.2.1 fun qq d' c' w1 w2=> ?_;obtain⟨m0,m1⟩:=st.at w1 w2;refine⟨m0,?_⟩;unfold del;rw[Dz (fun z:d' =Aa=>st.2.2.2.1 (z▸EE w1))];exact m1
end
noncomputable def eE(cs:List Nat)(i:Nat):List Int:=((List.range i).filter fun c=>cs.getD c 0==120).map fun c=>((2^c:Nat):Int)
noncomputable def bO(z:Str):List Int:=eE z.cps.toList z.length
theorem oh(cs:List Nat)(i:Nat):eE cs (i+1)=eE cs i++(if cs.getD i 0==120 then[((2^i:Nat):Int)]else[]):=by
 unfold eE;rw[List.range_succ,List.filter_append,EF];cases h:cs.getD i 0==120
 ·simp only[Fs,List.filter_nil,h]
  rfl
 ·simp only[Fs,List.filter_nil,h]
  rfl
theorem jq(cs:List Nat)(i:Nat):(eE cs i).length<=i:=by
 unfold eE;rw[Dp];exact Eh (FT _ _) (by rw[EZ];exact Dx _)
theorem oi{cs:List Nat}{i:Nat}(h:i<=8):cT (eE cs i):=fun b hb=>by
 unfold eE at hb;obtain⟨c,hc,rfl⟩:=Dv.mp hb;have:=Eb.mp (EW.mp hc).1;exact⟨c,rfl,by omega⟩
theorem c46(k:Nat)(z:Str)(hz:z.length<=8):aI P (k+1) 46 [.str z]=some (.lst ((bO z).map .int)):=by
 refine eo rfl rfl ?_;simp only[d46,entry];walk_at "go";refine eC (xs:=signs z) (n:=true) ?_ (fun i τ=>∃a,τ=[.frz (.str z) true,.own ((eE z.cps.toList i).map .int) true,.frz (.int ((2^i:Nat):Int)) true,a]) ⟨_,rfl⟩ ?_ ?_
 ·walk_at "ev"
 ·rintro i y τ hy ⟨a,rfl⟩
  have hi:i<z.length:=by
   have:=(D1.mp hy).1;rw[bi]at this;exact this
  obtain⟨c,hc,rfl⟩:∃c,z.cps.toList[i]? =some c/\y=.str ⟨#[c]⟩:=by
   unfold signs at hy;rw[D7]at hy;cases e:z.cps.toList[i]? with
   | none=>rw[e]at hy;cases hy
   | some c=>rw[e]at hy;exact⟨c,rfl,(EJ hy).symm⟩
  have hg:z.cps.toList.getD i 0=c:=by rw[Dt,hc];rfl
  refine⟨_,rfl,?_⟩;have rs:=oh z.cps.toList i;rw[hg]at rs;have hlen:((eE z.cps.toList i).map PV.int).length<LN:=by
   rw[Dp];have:=jq z.cps.toList i;show _<16777216;omega
  have e2:((2^i:Nat):Int)*2=((2^(i+1):Nat):Int):=by rw[Nat.pow_succ];push_cast;rfl
  walk_at "ev";rw[oY];cases hx:c==120 with
  | true =>
   rw[hx]at rs;walk_at "ev";rw[ci rfl hlen];walk_at "ev";exact⟨_,by rw[rs,e2,EF];rfl⟩
  | false =>
   rw[hx]at rs;walk_at "ev";exact⟨.frz (.str ⟨#[c]⟩) true,by rw[rs,e2];simp⟩
 ·rintro τ ⟨a,rfl⟩
  rw[bi];walk_at "ev";rfl
theorem c47(k:Nat)(Ls:List aL)(B:List Int)(h1:Ls.length<=100)(h2:B.length<=100)(h3:∀c∈Ls,c.length<=1000):aI P (k+1) 47 [.lst (Ls.map dP),.lst (B.map .int)]=some (.lst ((wl Ls B Ls.length).map dP)):=by
 refine run rfl rfl ?_;have e:bG [.lst (Ls.map dP),.lst (B.map .int)]=some (.lst ((wl Ls B Ls.length).map dP)):=by
  unfold bG;dsimp only;rw[pB,bT];simp only[Ei];rw[D3 ⟨h1,h2,by rw[EG];intro c hc;exact EX (h3 c hc)⟩]
 show dG (bC (aI P k) 1000000 Bu.body (entry Bu [.lst (Ls.map dP),.lst (B.map .int)]))=_;simp only[Bu,vW,vX,gU,gK,gJ,gN,gP,gI,gL,gS,gR,gW,gQ,gT,gO,gM,entry];have e2:((List.map (fun v=>TV.frz v (imm v)) [PV.lst (Ls.map dP),.lst (B.map .int)]++List.replicate (9-[PV.lst (Ls.map dP),.lst (B.map .int)].length) TV.un).take 2).map TV.valD=[.lst (Ls.map dP),.lst (B.map .int)]:=rfl;rw[e2,e];rfl
noncomputable def qS(rows:List Str):List Int:=wJ (bo (rows.map bO))
theorem c48(k:Nat)(rows:List Str)(h8:rows.length<=8)(w8:∀z∈rows,z.length<=8):aI P (k+2) 48 [.tup (rows.map .str)]=some (.lst ((qS rows).map .int)):=by
 refine eo rfl rfl ?_;have im:=bW rows;have good:∀i,(∀B∈(rows.take i).map bO,cT B):=fun i B hB=>by
  obtain⟨z,hz,rfl⟩:=Dv.mp hB;exact oi (w8 z (List.mem_of_mem_take hz))
 simp only[d48,entry];walk_at "ev";rw[im];refine eC (xs:=rows.map PV.str) (n:=true) ?_ (fun i τ=>∃a,τ=[.frz (.tup (rows.map .str)) true,.frz (.lst ((bo ((rows.take i).map bO)).map dP)) true,a]) ⟨_,rfl⟩ ?_ ?_
 ·walk_at "ev"
 ·rintro i y τ hy ⟨a,rfl⟩
  obtain⟨z,hz,hm,rfl⟩:∃z,rows[i]? =some z/\z∈rows/\y=.str z:=by
   rw[D7]at hy;cases e:rows[i]? with
   | none=>rw[e]at hy;cases hy
   | some z=>rw[e]at hy;exact⟨z,rfl,EE e,(EJ hy).symm⟩
  have hi:i<rows.length:=(D1.mp hz).1;obtain⟨g1,g2⟩:=dk (good i);have g1' :(bo ((rows.take i).map bO)).length<=9:=by rw[g1,Dp,FN];omega
  have hb:(bO z).length<=100:=by
   have:=jq z.cps.toList z.length;have:=w8 z hm;unfold bO;omega
  refine⟨_,rfl,?_⟩;walk_at "ev";rw[c46 k z (w8 z hm)];walk_at "ev";rw[c47 k _ _ (by omega) hb (fun c hc=>Eh (g2 c hc).len (by decide))];walk_at "ev";refine⟨.frz (.str z) true,?_⟩;rw[FJ,hz,EF];show[TV.frz (.tup (rows.map .str)) true,.frz (.lst ((wl (bo ((rows.take i).map bO)) (bO z) (bo ((rows.take i).map bO)).length).map dP)) true,TV.frz (.str z) true]=[_,TV.frz (.lst ((bo ((rows.take i).map bO++[bO z])).map dP)) true,_];rw[fo]
 ·rintro τ ⟨a,rfl⟩
  rw[Dp,Es];obtain⟨g1,g2⟩:=dk (good rows.length);rw[Es]at g1 g2;have hl:((bo (rows.map bO)).map dP).length<=16777216:=by rw[Dp,g1,Dp];omega
  walk_at "ev";rw[D3 hl];rw[br (p:=fun c=>decide (0<List.length c)) (g:=fun c=>PV.int (fg c)) (fun c hc=> ?h)]
  case h =>
   have e1:aP (c.map fun p=>PV.int p.2)=some (c.map (·.2)):=by
    have:=bT (c.map (·.2));rw[EU]at this;exact this
   unfold dP;walk_at "ev";rw[Dp]
   by_cases h0:0<c.length
   ·have h0' :(0:Int)<(c.length:Int):=by omega
    simp only[h0,h0',decide_true,if_true];rw[e1];rfl
   ·have h0' :¬(0:Int)<(c.length:Int):=by omega
    simp only[h0,h0',FP];rfl
  walk_at "ev";unfold qS wJ;rw[EU];rfl
theorem cy{α:Type}{f:PV->Option (Option (PV×Bool))}{F:α->PV}{G:α->PV}{l:List α}(h:∀x∈l,f (F x)=some (some (G x,true))):bD f (l.map F)=some (l.map G,true):=by
 induction l with
 | nil=>rfl
 | cons x l ih =>
  rw[D2,bD,h x Ds,ih fun y hy=>h y (Dq _ hy)];rfl
theorem lh(cs:List Nat):dQ (cs.map fun c=>PV.str ⟨#[c]⟩)=some (cs.map fun c=>(⟨#[c]⟩:Str)):=by
 induction cs with
 | nil=>rfl
 | cons c cs ih=>rw[D2,dQ,ih];rfl
theorem qI(cs:List Nat):((cs.map fun c=>(⟨#[c]⟩:Str)).map (·.length)).sum=cs.length:=by
 induction cs with
 | nil=>rfl
 | cons c cs ih=>rw[D2,D2,F9,ih,ED];show 1+_=_;omega
theorem oI{cs:List Nat}{n m:Bool}(h:cs.length<=1000):qg .join (.frz (.str (Str.ofString "")) n) [.own (cs.map fun c=>.str ⟨#[c]⟩) m]=some (sc (.str ⟨cs.toArray⟩)):=by
 have e:qg .join (.frz (.str (Str.ofString "")) n) [.own (cs.map fun c=>.str ⟨#[c]⟩) m]=(dQ (cs.map fun c=>PV.str ⟨#[c]⟩)).bind fun ys=>if(ys.map (·.length)).sum+ys.length*(Str.ofString "").length<=LN then some (sc (.str (kd (Str.ofString "") ys)))else none:=rfl
 rw[e,lh,Ei,qI,D3 (by show cs.length+_*0<=16777216;omega),<-kc];rw[show Str.join (Str.ofString "") (cs.map fun c=>(⟨#[c]⟩:Str))=txt cs from iQ cs];rfl
noncomputable def vd(rows:List Str)(j:Nat):Str:=⟨(rows.map fun z:Str=>z.cps.toList.getD j 0).toArray⟩
theorem vw(rows:List Str)(j:Nat):(vd rows j).length=rows.length:=by
 show(List.toArray _).size=_;simp
theorem ko{rows:List Str}{i:Nat}(h:i<rows.length)(j:Nat):cd rows i j=rows[i].cps.toList.getD j 0:=by
 unfold cd;rw[show rows.getD i ⟨#[]⟩=rows[i]from by rw[List.getD,Dw h];rfl]
theorem vD{rows:List Str}{i:Nat}(h:¬i<rows.length)(j:Nat):cd rows i j=0:=by
 unfold cd;rw[show rows.getD i ⟨#[]⟩=⟨#[]⟩from by rw[List.getD,Ef (by omega)];rfl];rfl
theorem yp{rows:List Str}{w:Nat}(hw:Wd rows w)(i j:Nat):cd ((List.range w).map (vd rows)) i j=if i<w/\j<rows.length then cd rows j i else 0:=by
 by_cases hi:i<w
 ·rw[ko (by simpa using hi)]
  rw[FX,List.getElem_range];unfold vd
  by_cases hj:j<rows.length
  ·rw[D3 ⟨hi,hj⟩,ko hj]
   simp[List.getD,hj]
  ·rw[Dz (fun h=>hj h.2)]
   simp[List.getD,hj]
 ·rw[Dz (fun h=>hi h.1),vD (by simpa using hi)]
noncomputable def wI(z:Str):Str:=⟨z.cps.toList.reverse.toArray⟩
theorem wH(z:Str):(wI z).length=z.length:=by
 show(List.toArray _).size=z.cps.size;simp
theorem yq{rows:List Str}{w:Nat}(hw:Wd rows w)(i j:Nat):cd (rows.map wI) i j=if i<rows.length/\j<w then cd rows (id i) (bk w j)else 0:=by
 by_cases hi:i<rows.length
 ·rw[ko (by simpa using hi),FX]
  have e:rows[i].cps.toList.length=w:=by rw[EQ];exact hw _ (Fq hi)
  unfold wI
  by_cases hj:j<w
  ·rw[D3 ⟨hi,hj⟩,show id i=i from rfl,ko hi]
   unfold bk;rw[D3 hj];show(rows[i].cps.toList.reverse).getD j 0=_;rw[List.getD,List.getElem?_reverse (by omega),e];rfl
  ·rw[Dz (fun h=>hj h.2)]
   show(rows[i].cps.toList.reverse).getD j 0=_;rw[List.getD,Ef (by rw[Fz];omega)];rfl
 ·rw[Dz (fun h=>hi h.1),vD (by simpa using hi)]
theorem c13(k:Nat)(rows:List Str)(w:Nat)(hw:Wd rows w)(h8:rows.length<=8)(w8:w<=8)(j:Nat)(hj:j<w):aI P (k+1) 13 [.tup (rows.map .str),.int (j:Nat)]=some (.str (vd rows j)):=by
 refine eo rfl rfl ?_;have im:=bW rows;simp only[d13,entry];walk_at "ev";rw[D3 (by rw[Dp];omega)];rw[cy (G:=fun z:Str=>PV.str ⟨#[z.cps.toList.getD j 0]⟩) (fun z hz=>by
  have e:z.cps.toList.length=w:=by rw[EQ];exact hw z hz
  have l:z.length=w:=hw z hz;have a:cf z.cps.toList (j:Int)=some (z.cps.toList.getD j 0):=bE (by rw[List.getD,Dw (by omega)];rfl);walk_at "ev";rw[D3 (by rw[l];omega),a];walk_at "ev")]
 walk_at "ev";have e:(rows.map fun z:Str=>PV.str ⟨#[z.cps.toList.getD j 0]⟩)=(rows.map fun z:Str=>z.cps.toList.getD j 0).map fun c=>PV.str ⟨#[c]⟩:=by rw[EU];rfl
 rw[e,oI (by rw[Dp];omega)];walk_at "ev";rfl
theorem c14(k:Nat)(rows:List Str)(w:Nat)(hw:Wd rows w)(h0:rows≠[])(h8:rows.length<=8)(w8:w<=8):aI P (k+2) 14 [.tup (rows.map .str)]=some (.tup (((List.range w).map (vd rows)).map .str)):=by
 refine eo rfl rfl ?_;have im:=bW rows;obtain⟨z0,hz0⟩:∃z,rows[0]? =some z:=by
  cases rows with
  | nil=>exact absurd rfl h0
  | cons z r=>exact⟨z,rfl⟩
 have l0:z0.length=w:=hw z0 (EE hz0);have a0:cf (rows.map PV.str) 0=some (.str z0):=nX (i:=0) hz0;simp only[d14,entry];walk_at "ev";rw[a0];walk_at "ev";rw[len_str,D3 (by rw[l0];show w<=16777216;omega)];walk_at "ev";simp only[hJ,bc,l0];rw[D3 ⟨by omega,by omega⟩,Fm];walk_at "ev";rw[D3 (by rw[Dp,EZ];omega)];rw[cy (G:=fun j=>PV.str (vd rows j)) (fun j hj=>by
  walk_at "ev";rw[Int.zero_add,c13 k rows w hw h8 w8 j (Eb.mp hj)];walk_at "ev")]
 walk_at "ev";rw[EU];rfl
theorem c15(k:Nat)(rows:List Str)(h8:rows.length<=8)(w8:∀z∈rows,z.length<=8):aI P (k+1) 15 [.tup (rows.map .str)]=some (.tup ((rows.map wI).map .str)):=by
 refine eo rfl rfl ?_;have im:=bW rows;simp only[d15,entry];walk_at "ev";rw[D3 (by rw[Dp];omega)];rw[cy (G:=fun z=>PV.str (wI z)) (fun z hz=>by
  have:=w8 z hz;walk_at "ev";rw[D3 (by omega)];rfl)]
 walk_at "ev";rw[EU];rfl
theorem vE{rows:List Str}{w i j:Nat}(hw:Wd rows w)(h:cd rows i j=120):i<rows.length/\j<w:=by
 have e:=h;unfold cd at e
 by_cases hi:i<rows.length
 ·refine⟨hi,?_⟩
  have hz:rows.getD i ⟨#[]⟩=rows[i]:=by rw[List.getD,Dw hi];rfl
  have hl:rows[i].cps.toList.length=w:=by rw[EQ];exact hw _ (Fq hi)
  by_cases hj:j<w
  ·exact hj
  ·rw[hz,List.getD,Ef (by omega)]at e
   cases e
 ·rw[show rows.getD i ⟨#[]⟩=⟨#[]⟩from by rw[List.getD,Ef (by omega)];rfl]at e
  cases e
structure ou(rows:List Str)(p:List (Int×Int)):Prop where
 rowd:(p.map (·.1)).Nodup
 cold:(p.map (·.2)).Nodup
 cell:∀x∈p,∃i j:Nat,x=((i:Int),(j:Int))/\cd rows i j=120
theorem gq{rows:List Str}{i j:Nat}:j∈(rows.map bt).getD i []↔cd rows i j=120:=by
 have e:(rows.map bt).getD i []=bt (rows.getD i ⟨#[]⟩):=by
  rw[Dt,Dt,D7];cases rows[i]? <;>rfl
 rw[e];unfold bt cd;rw[EW,Eb,beq_iff_eq];refine⟨fun h=>h.2,fun h=>⟨?_,h⟩⟩
 by_cases hj:j<(rows.getD i ⟨#[]⟩).length
 ·exact hj
 ·rw[Dt,Ef (by rw[EQ];exact Nat.le_of_not_lt hj)]at h
  cases h
theorem px{rows:List Str}{i:Nat}{c:Int}:c∈df (i5 rows) (i:Nat)↔∃j:Nat,c=(j:Int)/\cd rows i j=120:=by
 have e:df (i5 rows) (i:Nat)=((rows.map bt).getD i []).map fun c:Nat=>(c:Int):=by
  unfold df i5;rw[Fm,Dt,Dt,D7,D7];cases rows[i]? <;>rfl
 rw[e,Dv]
 constructor
 ·rintro⟨j,hj,rfl⟩
  exact⟨j,rfl,gq.mp hj⟩
 ·rintro⟨j,rfl,h⟩
  exact⟨j,gq.mpr h,rfl⟩
theorem rG{rows:List Str}{i j:Nat}(h:cd rows i j=120):i<rows.length:=by
 by_cases hi:i<rows.length
 ·exact hi
 ·rw[vD hi]at h
  cases h
section
variable{rows:List Str}{H:aL}{R Q:List Int}(ok:lA (i5 rows) rows.length H)(hr:nK (i5 rows) H rows.length R Q R.length)
include ok
theorem uf:ou rows (gf H):=by
 unfold gf;refine⟨by rw[EU];exact ok.mt.rows,by rw[EU];exact ok.mt.keys,fun x hx=> ?_⟩;obtain⟨p,hp,rfl⟩:=Dv.mp hx;obtain⟨r0,r1⟩:=ok.rows p.2 (Dv.mpr ⟨p,hp,rfl⟩);have e:=ok.mt.edge p hp;rw[show p.2=((p.2.toNat:Nat):Int)by omega]at e;obtain⟨j,e1,e2⟩:=px.mp e;exact⟨p.2.toNat,j,Prod.ext (by show p.2=((p.2.toNat:Nat):Int);omega) e1,e2⟩
include hr
theorem tS{p:List (Int×Int)}(hp:ou rows p):p.length<=H.length:=by
 rw[<- lw ok hr];refine ux hp.rowd hp.cold fun x hx=> ?_;obtain⟨i,j,rfl,h⟩:=hp.cell x hx
 by_cases hR:(i:Int)∈R
 ·obtain⟨k,hk,e⟩:=Fu.mp hR
  exact .inr (hr.done k hk _ (by rw[Dw hk,e]) _ (px.mpr ⟨j,rfl,h⟩))
 ·have:=rG h
  exact .inl (bn.mpr ⟨by show 0<=(i:Int)/\(i:Int)<(rows.length:Int);omega,hR⟩)
theorem sx(w8:∀z∈rows,z.length<=8):(qS rows).length=H.length+1:=by
 have hc:lB (rows.map bt):=fun r hr c hcc=>by
  obtain⟨z,hz,rfl⟩:=Dv.mp hr;unfold bt at hcc;have:=Eb.mp (EW.mp hcc).1;have:=w8 z hz;omega
 have e:rows.map bO=(rows.map bt).map bX:=by rw[EU];rfl
 have pl:=uf ok;have sl:(gf H).length=H.length:=by unfold gf;rw[Dp]
 have hn:H.length<=rows.length:=by
  have:=cX (U:=fH rows.length) ok.mt.rows fun x hx=>jb.mpr (ok.rows x hx);unfold fH at this;rw[Dp,Dp,EZ]at this;exact this
 unfold qS;rw[e,sy _ hc,Dp];refine wZ (by omega) (fun i hi=> ?_) fun i hi hp=> ?_
 ·refine mx _ _ H.length i hi ?_
  rw[<- sl];refine xT _ _ 0 _ pl.rowd pl.cold fun x hx=> ?_;obtain⟨a,b,rfl,h⟩:=pl.cell x hx;exact⟨a,b,by rw[Nat.zero_add],gq.mpr h,FE⟩
 ·obtain⟨p,a1,a2,a3,a4⟩:=xo _ _ _ 0 hp
  have:=tS ok hr (p:=p) ⟨a2,a3,fun x hx=>by
   obtain⟨a,b,rfl,h,_⟩:=a4 x hx;exact⟨a,b,by rw[Nat.zero_add],gq.mp h⟩⟩
  omega
end
theorem ou.swap{rows rows' :List Str}{p:List (Int×Int)}(h:∀i j,cd rows' i j=120->cd rows j i=120)(hp:ou rows' p):ou rows (p.map fun x=>(x.2,x.1)):=by
 refine⟨by rw[EU];exact hp.cold,by rw[EU];exact hp.rowd,fun x hx=> ?_⟩;obtain⟨y,hy,rfl⟩:=Dv.mp hx;obtain⟨i,j,rfl,e⟩:=hp.cell y hy;exact⟨j,i,rfl,h i j e⟩
theorem ou.flip{rows rows' :List Str}{w:Nat}{p:List (Int×Int)}(h:∀i j,cd rows' i j=120->j<w/\cd rows i (w-1-j)=120)(hp:ou rows' p):ou rows (p.map fun x=>(x.1,(w:Int)-1-x.2)):=by
 refine⟨by rw[EU];exact hp.rowd,?_,fun x hx=> ?_⟩
 ·have:=hp.cold
  unfold List.Nodup at this ⊢;rw[Fk]at this;rw[EU,Fk];refine this.imp fun{a b} hab e=>hab ?_;have e:(w:Int)-1-a.2=(w:Int)-1-b.2:=e;omega
 ·obtain⟨y,hy,rfl⟩:=Dv.mp hx
  obtain⟨i,j,rfl,e⟩:=hp.cell y hy;obtain⟨h1,h2⟩:=h i j e;exact⟨i,w-1-j,Prod.ext rfl (by show(w:Int)-1-(j:Int)=((w-1-j:Nat):Int);omega),h2⟩
noncomputable def nL(rows:List Str)(m:Nat):Prop:=(∃p,ou rows p/\p.length=m)/\∀p,ou rows p->p.length<=m
theorem nL.same{rows rows' :List Str}{m m' :Nat}(h:nL rows m)(h' :nL rows' m')(a:∀p,ou rows p->∃q,ou rows' q/\q.length=p.length)(b:∀p,ou rows' p->∃q,ou rows q/\q.length=p.length):m' =m:=by
 obtain⟨⟨p,p1,p2⟩,p3⟩:=h;obtain⟨⟨q,q1,q2⟩,q3⟩:=h';obtain⟨p',a1,a2⟩:=a p p1;obtain⟨q',b1,b2⟩:=b q q1;have:=q3 p' a1;have:=p3 q' b1;omega
theorem kS(k:Nat)(rows:List Str)(w:Nat)(hw:Wd rows w)(h8:rows.length<=8)(w8:w<=8):∃m A B D,aI P (k+14) 114 [.tup (rows.map .str)]=some (.tup [.tup A,.lst B,.lst D])/\A.length=m/\B.length+D.length=m/\(qS rows).length=m+1/\m<=8/\nL rows m:=by
 obtain⟨v,e,R,Q,rfl,hr⟩:=c114 k rows w hw h8 w8;have ok:lA (i5 rows) rows.length (hd (i5 rows) rows.length):=mV (eR (mz hw h8 w8)).2.2 rows.length;have w8' :∀z∈rows,z.length<=8:=fun z hz=>by rw[hw z hz];exact w8
 have rm:=sx ok hr w8';have rc:=lw ok hr;have hn:(hd (i5 rows) rows.length).length<=8:=by
  have:=cX (U:=[0,1,2,3,4,5,6,7]) ok.mt.rows fun x hx=>by
   obtain⟨a,b⟩:=ok.rows x hx;simp only[D8];omega
  rw[Dp]at this;exact this
 refine⟨(hd (i5 rows) rows.length).length,_,_,_,e,?_,?_,rm,hn,⟨_,uf ok,?_⟩,fun p hp=>tS ok hr hp⟩
 ·rw[Dp,(dA _).length_eq]
  unfold gf;rw[Dp]
 ·rw[Dp,Dp,(L2.sortI_perm Q).length_eq]
  exact rc
 ·unfold gf
  rw[Dp]
theorem Drawn.plc{rows:List Str}{w:Nat}{fs:List (Int×Int)}(h:Drawn rows w fs):ou rows fs :=
 ⟨h.rowd,h.cold,fun x hx=>by
  obtain⟨r,c,e,_,_,h3⟩:=vF (h.cell x hx);exact⟨r,c,e,h3⟩⟩
theorem at_2{α:Type}{x y z:α}{xs:List α}:L2.cf (x::y::z::xs) 2=some z:=L2.bE (j:=2) rfl
theorem xl{α β:Type}(f:α->β)(l:List α)(lo hi:Option Int):cut (l.map f) lo hi=(cut l lo hi).map f:=by
 unfold cut;rw[Dp,List.map_take,List.map_drop]
theorem xC{rows:List Str}{w m m' :Nat}(hw:Wd rows w)(mo:nL rows m)(mo' :nL ((List.range w).map (vd rows)) m'):m' =m:=by
 refine mo.same mo' (fun p hp=>⟨_,hp.swap fun i j h=> ?_,Dp _⟩) fun p hp=>⟨_,hp.swap fun i j h=> ?_,Dp _⟩
 ·rw[yp hw,D3 (show j<w/\i<rows.length from⟨(vE hw h).2,(vE hw h).1⟩)]
  exact h
 ·rw[yp hw]at h
  split at h
  ·exact h
  ·cases h
theorem xD{rows:List Str}{w m m' :Nat}(hw:Wd rows w)(mo:nL rows m)(mo' :nL (rows.map wI) m'):m' =m:=by
 refine mo.same mo' (fun p hp=>⟨_,hp.flip (w:=w) fun i j h=> ?_,Dp _⟩) fun p hp=>⟨_,hp.flip (w:=w) fun i j h=> ?_,Dp _⟩
 ·obtain⟨i1,j1⟩:=vE hw h
  refine⟨j1,?_⟩;rw[yq hw,D3 ⟨i1,by omega⟩];unfold bk;rw[D3 (by omega),show w-1-(w-1-j)=j by omega];exact h
 ·rw[yq hw]at h
  split at h
  ·rename_i hc
   unfold bk at h;rw[D3 hc.2]at h;exact⟨hc.2,h⟩
  ·cases h
theorem uS:∀ns:List Int,ns.length<=63->aI P 40 125 [.lst (ns.map PV.int)]=some (.bl true):=by
 intro ns h63;refine eo rfl rfl ?_;simp only[BC,entry];obtain⟨v6,e6,rows,bd,rfl⟩:=c6 37 (ns.getD 0 0) (ns.getD 1 0) 8 (by decide) (by decide);obtain⟨w,w1,w2,hw⟩:=bd.wide;have w8:∀z∈rows,z.length<=8:=fun z hz=>by rw[hw z hz];exact w2
 have h0:=bd.some;have h8:=bd.few;have e6:aI P 39 6 [.int (ns.getD 0 0),.int (ns.getD 1 0),.int 8]=some (.tup (rows.map PV.str)):=e6;have a0:aI P 39 4 [.lst (ns.map PV.int),.int 0]=some (.int (ns.getD 0 0)):=c4 38 ns 0;have a1:aI P 39 4 [.lst (ns.map PV.int),.int 1]=some (.int (ns.getD 1 0)):=c4 38 ns 1;have e48:aI P 39 48 [.tup (rows.map PV.str)]=some (.lst ((qS rows).map .int)):=c48 37 rows h8 w8;have e7:aI P 39 7 [.tup (rows.map PV.str)]=some (.lst ((cI rows w).map bg)):=by rw[<- vG];exact c7 38 rows w hw h0 h8 w2
 obtain⟨m,A,B,D,e114,l1,l2,l3,m8,mo⟩:=kS 25 rows w hw h8 w2;have e14:aI P 39 14 [.tup (rows.map PV.str)]=some (.tup (((List.range w).map (vd rows)).map .str)):=c14 37 rows w hw h0 h8 w2;have e15:aI P 39 15 [.tup (rows.map PV.str)]=some (.tup ((rows.map wI).map .str)):=c15 38 rows h8 w8;walk_at "ev";rw[a0];walk_at "ev";rw[a1];walk_at "ev";rw[e6];walk_at "ev";rw[e7];walk_at "ev";rw[e114];walk_at "ev";rw[at_2];walk_at "ev";rw[show(B.length:Int)+(D.length:Int)=(m:Int)by omega,l1,EX (show(m:Int)=m from rfl)];walk_at "ev";rw[e48];walk_at "ev";rw[Dp,l3,show(((m+1:Nat):Int))-1=(m:Int)by omega,EX (show(m:Int)=m from rfl)];walk_at "ev";obtain⟨T,hT⟩:∃T:PV,T=.tup (((List.range w).map (vd rows)).map .str):=⟨_,rfl⟩;obtain⟨M,hM⟩:∃M:PV,M=.tup ((rows.map wI).map .str):=⟨_,rfl⟩;have iT:imm T=true:=by rw[hT];exact iU _
 have iM:imm M=true:=by rw[hM];exact iU _
 rw[<- hT]at e14;rw[<- hM]at e15;have both:∀y:PV,y=T\/y=M->imm y=true/\∃A' B' D',aI P 39 114 [y]=some (.tup [.tup A',.lst B',.lst D'])/\A'.length=m:=by
  rintro y (rfl|rfl)
  ·refine⟨iT,?_⟩
   obtain⟨m',A',B',D',e',l',_,_,_,mo'⟩:=kS 25 ((List.range w).map (vd rows)) rows.length (fun z hz=>by obtain⟨j,_,rfl⟩:=Dv.mp hz;exact vw rows j) (by rw[Dp,EZ];exact w2) h8;exact⟨A',B',D',by rw[hT];exact e',by rw[l'];exact xC hw mo mo'⟩
  ·refine⟨iM,?_⟩
   obtain⟨m',A',B',D',e',l',_,_,_,mo'⟩:=kS 25 (rows.map wI) w (fun z hz=>by obtain⟨y,hy,rfl⟩:=Dv.mp hz;rw[wH];exact hw y hy) (by rw[Dp];exact h8) w2;exact⟨A',B',D',by rw[hM];exact e',by rw[l'];exact xD hw mo mo'⟩
 refine eC (xs:=[T,M]) (n:=true) ?_ (fun i τ=>∃a,τ=[.frz (.lst (ns.map PV.int)) false,.frz (.tup (rows.map .str)) true,.frz (.lst ((cI rows w).map bg)) true,.frz (.tup [.tup A,.lst B,.lst D]) true,.frz (.int (m:Nat)) true,a,.un]) ⟨_,rfl⟩ ?_ ?_
 ·walk_at "ev"
  rw[e14];walk_at "ev";rw[e15];walk_at "ev";rw[hT,hM];walk_at "ev"
 ·rintro i y τ hy ⟨a,rfl⟩
  obtain⟨iy,A',B',D',e',l'⟩:=both y (by
   have:=EE hy
   simpa using this)
  refine⟨_,rfl,?_⟩;walk_at "ev";rw[e'];walk_at "ev";rw[l',EX (show(m:Int)=m from rfl)];walk_at "ev";exact⟨_,rfl⟩
 ·rintro τ ⟨a,rfl⟩
  have imn:imms (ns.map PV.int)=true:=mS _;refine eC (xs:=(cut ns (some 2) (some 63)).map PV.int) (n:=true) ?_ (fun i τ=>∃b,τ=[.frz (.lst (ns.map PV.int)) false,.frz (.tup (rows.map .str)) true,.frz (.lst ((cI rows w).map bg)) true,.frz (.tup [.tup A,.lst B,.lst D]) true,.frz (.int (m:Nat)) true,a,b]) ⟨_,rfl⟩ ?_ ?_
  ·walk_at "ev"
   rw[nj,imn,xl];walk_at "ev"
  ·rintro i y τ hy ⟨b,rfl⟩
   obtain⟨hi,rfl,_⟩:=int_at hy
   generalize (cut ns (some 2) (some 63)).getD i 0=x
   obtain⟨v,e20,d,_,rfl⟩:=c20 37 x;obtain⟨v,e124,fs,rfl,dr⟩:=c124 38 rows w d h8 w2;have hle:=mo.2 fs dr.plc;refine⟨_,rfl,?_⟩;walk_at "ev";rw[e20];walk_at "ev";rw[e124];walk_at "ev";rw[Dp,EV (show¬(m:Int)<(fs.length:Int)by omega)];walk_at "ev";exact⟨_,rfl⟩
  ·rintro τ ⟨b,rfl⟩
   walk_at "ev"
noncomputable abbrev jy(nm:Str)(ps:List Str)(st:Stmt):Prop:=∀(kV doc pm:Value)(an:Option Addr)(cdv ct:Value)(us:List Value),us.length=ps.length->bindArgs (W.fnOf nm nm (aR st) (aE st) (aA st) .none kV doc pm an cdv ct) ⟨us,[]⟩=pure (ps.zip us)
theorem Cb:aY Df ["line"] (aA n4):=⟨rfl,rfl,rfl,by decide +kernel,rfl,by decide +kernel,by decide +kernel⟩
theorem DR:jy "columns_in" ["line"] n4 :=
 fun _ _ _ _ _ _ us hl=>by
  obtain⟨_,rfl⟩:=iL hl;rfl
theorem B8:bB 80 ⟨Df,(aA n4).names,F,G,B,[]⟩ (aE n4)=BH.body:=by kernel_rfl
theorem sc13:aY N13 ["board","column"] (aA zX):=⟨rfl,rfl,rfl,by decide +kernel,rfl,by decide +kernel,by decide +kernel⟩
theorem bd13:jy "column_of" ["board","column"] zX :=
 fun _ _ _ _ _ _ us hl=>by
  obtain⟨_,_,rfl⟩:=kT hl;rfl
theorem tr13:bB 80 ⟨N13,(aA zX).names,F,G,B,[]⟩ (aE zX)=d13.body:=by kernel_rfl
theorem sc14:aY N14 ["board"] (aA zW):=⟨rfl,rfl,rfl,by decide +kernel,rfl,by decide +kernel,by decide +kernel⟩
theorem bd14:jy "laid_over" ["board"] zW :=
 fun _ _ _ _ _ _ us hl=>by
  obtain⟨_,rfl⟩:=iL hl;rfl
theorem tr14:bB 80 ⟨N14,(aA zW).names,F,G,B,[]⟩ (aE zW)=d14.body:=by kernel_rfl
theorem sc15:aY N15 ["board"] (aA zV):=⟨rfl,rfl,rfl,by decide +kernel,rfl,by decide +kernel,by decide +kernel⟩
theorem bd15:jy "mirrored" ["board"] zV :=
 fun _ _ _ _ _ _ us hl=>by
  obtain⟨_,rfl⟩:=iL hl;rfl
theorem tr15:bB 80 ⟨N15,(aA zV).names,F,G,B,[]⟩ (aE zV)=d15.body:=by kernel_rfl
theorem DQ:jy "takes_column" ["choices","holders","row","tried"] ll :=
 fun _ _ _ _ _ _ us hl=>by
  obtain⟨_,_,_,_,rfl⟩:=len4 hl;rfl
theorem DP:jy "holders_of" ["choices"] qQ :=
 fun _ _ _ _ _ _ us hl=>by
  obtain⟨_,rfl⟩:=iL hl;rfl
theorem Ca:aY De ["size","numbers"] (aA nz):=⟨rfl,rfl,rfl,by decide +kernel,rfl,by decide +kernel,by decide +kernel⟩
theorem DO:jy "others" ["size","numbers"] nz :=
 fun _ _ _ _ _ _ us hl=>by
  obtain⟨_,_,rfl⟩:=kT hl;rfl
theorem B7:bB 80 ⟨De,(aA nz).names,F,G,B,[]⟩ (aE nz)=BG.body:=by kernel_rfl
theorem CZ:aY Dd ["choices","holders"] (aA ny):=⟨rfl,rfl,rfl,by decide +kernel,rfl,by decide +kernel,by decide +kernel⟩
theorem DN:jy "reached" ["choices","holders"] ny :=
 fun _ _ _ _ _ _ us hl=>by
  obtain⟨_,_,rfl⟩:=kT hl;rfl
theorem B6:bB 80 ⟨Dd,(aA ny).names,F,G,B,[2,3]⟩ (aE ny)=BF.body:=by kernel_rfl
theorem CY:aY Dc ["board"] (aA nw):=⟨rfl,rfl,rfl,by decide +kernel,rfl,by decide +kernel,by decide +kernel⟩
theorem DM:jy "most_of" ["board"] nw :=
 fun _ _ _ _ _ _ us hl=>by
  obtain⟨_,rfl⟩:=iL hl;rfl
theorem B5:bB 80 ⟨Dc,(aA nw).names,F,G,B,[]⟩ (aE nw)=BE.body:=by kernel_rfl
theorem sc46:aY N46 ["line"] (aA zT):=⟨rfl,rfl,rfl,by decide +kernel,rfl,by decide +kernel,by decide +kernel⟩
theorem bd46:jy "bits_of" ["line"] zT :=
 fun _ _ _ _ _ _ us hl=>by
  obtain⟨_,rfl⟩:=iL hl;rfl
theorem tr46:bB 80 ⟨N46,(aA zT).names,F,G,B,[1]⟩ (aE zT)=d46.body:=by kernel_rfl
theorem bd47:jy "with_line" ["levels","bits"] Bq :=
 fun _ _ _ _ _ _ us hl=>by
  obtain⟨_,_,rfl⟩:=kT hl;rfl
theorem sc48:aY N48 ["board"] (aA zS):=⟨rfl,rfl,rfl,by decide +kernel,rfl,by decide +kernel,by decide +kernel⟩
theorem bd48:jy "row_of" ["board"] zS :=
 fun _ _ _ _ _ _ us hl=>by
  obtain⟨_,rfl⟩:=iL hl;rfl
theorem tr48:bB 80 ⟨N48,(aA zS).names,F,G,B,[]⟩ (aE zS)=d48.body:=by kernel_rfl
theorem sc4:aY N4 ["_law_script","_law_k"] (aA s4):=⟨rfl,rfl,rfl,by decide +kernel,rfl,by decide +kernel,by decide +kernel⟩
theorem bd4:jy "_law_cell" ["_law_script","_law_k"] s4 :=
 fun _ _ _ _ _ _ us hl=>by
  obtain⟨_,_,rfl⟩:=kT hl;rfl
theorem tr4:bB 80 ⟨N4,(aA s4).names,F,G,B,[]⟩ (aE s4)=d4.body:=by kernel_rfl
theorem sc5:aY N5 ["_law_cell_here","_law_k"] (aA s5):=⟨rfl,rfl,rfl,by decide +kernel,rfl,by decide +kernel,by decide +kernel⟩
theorem bd5:jy "_law_mixed" ["_law_cell_here","_law_k"] s5 :=
 fun _ _ _ _ _ _ us hl=>by
  obtain⟨_,_,rfl⟩:=kT hl;rfl
theorem tr5:bB 80 ⟨N5,(aA s5).names,F,G,B,[]⟩ (aE s5)=d5.body:=by kernel_rfl
theorem sc20:aY N20 ["_law_cell_here"] (aA zU):=⟨rfl,rfl,rfl,by decide +kernel,rfl,by decide +kernel,by decide +kernel⟩
theorem bd20:jy "_law_deep" ["_law_cell_here"] zU :=
 fun _ _ _ _ _ _ us hl=>by
  obtain⟨_,rfl⟩:=iL hl;rfl
theorem tr20:bB 80 ⟨N20,(aA zU).names,F,G,B,[]⟩ (aE zU)=d20.body:=by kernel_rfl
theorem sc6:aY N6 ["_law_head","_law_cell_here","_law_most"] (aA s6):=⟨rfl,rfl,rfl,by decide +kernel,rfl,by decide +kernel,by decide +kernel⟩
theorem bd6:jy "_law_board" ["_law_head","_law_cell_here","_law_most"] s6 :=
 fun _ _ _ _ _ _ us hl=>by
  obtain⟨_,_,_,rfl⟩:=C0 hl;rfl
theorem tr6:bB 80 ⟨N6,(aA s6).names,F,G,B,[6]⟩ (aE s6)=d6.body:=by kernel_rfl
theorem sc7:aY N7 ["_law_board_here"] (aA s7):=⟨rfl,rfl,rfl,by decide +kernel,rfl,by decide +kernel,by decide +kernel⟩
theorem bd7:jy "_law_cells" ["_law_board_here"] s7 :=
 fun _ _ _ _ _ _ us hl=>by
  obtain⟨_,rfl⟩:=iL hl;rfl
theorem tr7:bB 80 ⟨N7,(aA s7).names,F,G,B,[1]⟩ (aE s7)=d7.body:=by kernel_rfl
theorem CW:aY Db ["_law_cells_here","_law_number"] (aA nu):=⟨rfl,rfl,rfl,by decide +kernel,rfl,by decide +kernel,by decide +kernel⟩
theorem DL:jy "_law_placing" ["_law_cells_here","_law_number"] nu :=
 fun _ _ _ _ _ _ us hl=>by
  obtain⟨_,_,rfl⟩:=kT hl;rfl
theorem B4:bB 80 ⟨Db,(aA nu).names,F,G,B,[4]⟩ (aE nu)=BD.body:=by kernel_rfl
theorem CV:aY Da ["_law_script"] (aA i8):=⟨rfl,rfl,rfl,by decide +kernel,rfl,by decide +kernel,by decide +kernel⟩
theorem DK:jy "law" ["_law_script"] i8 :=
 fun _ _ _ _ _ _ us hl=>by
  obtain⟨_,rfl⟩:=iL hl;rfl
theorem B3:bB 80 ⟨Da,(aA i8).names,F,G,B,[]⟩ (aE i8)=BC.body:=by kernel_rfl
theorem nO{K:W.Frag}{h:Heap}{mg:Str->Option Value}{x:Str}(X:K.In h)(Gh:h.Ns mainGlobals mg)(z:W.nsIn K mainGlobals x=some none):mg x=none:=W.mg_none_of X Gh z
section
variable{K:W.Frag}{h:Heap}{mg:Str->Option Value}{nm:Str}{ps N:List Str}{st:Stmt}{f:Addr}{k:Nat}{d:FD}{M:List Nat}{oc kV doc pm cd ct:Value}{od an:Option Addr}{sl:Array (Option Value)}(X:K.In h)(Gh:h.Ns mainGlobals mg)(a:W.nsIn K mainGlobals nm=some (some (.ref f)))(l:K.lookup f=some ⟨oc,od,.func (W.fnOf nm nm (aR st) (aE st) (aA st) .none kV doc pm an cd ct),sl⟩)(c:W.codeIn K cd nm=true)(kp:W.keepIn K (.ref f)=true)(b:jy nm ps st)
include X Gh a l c kp b
theorem mkD:Bl K mg nm st ps f (W.fnOf nm nm (aR st) (aE st) (aA st) .none kV doc pm an cd ct):=⟨ug l c kp,W.mg_of X Gh a,(ug l c kp).binds b⟩
theorem nP{body:rS}(sc:aY N ps (aA st))(e:P k=some ⟨N.length,ps.length,body⟩)(tr:bB 80 ⟨N,(aA st).names,F,G,B,M⟩ (aE st)=body):rT K mg P F G B nm k f (W.fnOf nm nm (aR st) (aE st) (aA st) .none kV doc pm an cd ct) ps:=⟨.inr ⟨st,N,M,80,body,mkD X Gh a l c kp b,sc,e,tr⟩⟩
end
theorem BX{l:W.OpenLaw}{w:World}{K:W.Frag}{h:Heap}{mg:Str->Option Value}{fa f0 f1 f2 f3 f4 f5 f6 f7 f8 f9 f10 f11 f12 f13 f14 f15 f16 f17 f18:Addr}(X:K.In h)(Gh:h.Ns mainGlobals mg)(hfa:mg "law"=some (.ref fa))
  {q0 x0 q1 x1 q2 x2 q3 x3 q4 x4 q5 x5 q6 x6 q7 x7 q8 x8 q9 x9 q10 x10 q11 x11 q12 x12 q13 x13 q14 x14 q15 x15 q16 x16 q17 x17 q18 x18:Option Addr} {r0 r1 r2 r3 r4 r5 r6 r7 r8 r9 r10 r11 r12 r13 r14 r15 r16 r17 r18:Array (Option Value)} {p0 t0 u0 w0 y0 m0 p1 t1 u1 w1 y1 m1 p2 t2 u2 w2 y2 m2 p3 t3 u3 w3 y3 m3 p4 t4 u4 w4 y4 m4 p5 t5 u5 w5 y5 m5 p6 t6 u6 w6 y6 m6 p7 t7 u7 w7 y7 m7 p8 t8 u8 w8 y8 m8 p9 t9 u9 w9 y9 m9 p10 t10 u10 w10 y10 m10 p11 t11 u11 w11 y11 m11 p12 t12 u12 w12 y12 m12 p13 t13 u13 w13 y13 m13 p14 t14 u14 w14 y14 m14 p15 t15 u15 w15 y15 m15 p16 t16 u16 w16 y16 m16 p17 t17 u17 w17 y17 m17 p18 t18 u18 w18 y18 m18:Value}
  {tk0:Tok}
  (a0:W.nsIn K mainGlobals "columns_in"=some (some (.ref f0))) (l0:K.lookup f0=some ⟨p0,q0,.func (W.fnOf "columns_in" "columns_in" (aR n4) (aE n4) (aA n4) .none t0 u0 w0 x0 y0 m0),r0⟩) (c0:W.codeIn K y0 "columns_in"=true) (k0:W.keepIn K (.ref f0)=true)
  (a1:W.nsIn K mainGlobals "column_of"=some (some (.ref f1))) (l1:K.lookup f1=some ⟨p1,q1,.func (W.fnOf "column_of" "column_of" (aR zX) (aE zX) (aA zX) .none t1 u1 w1 x1 y1 m1),r1⟩) (c1:W.codeIn K y1 "column_of"=true) (k1:W.keepIn K (.ref f1)=true)
  (a2:W.nsIn K mainGlobals "laid_over"=some (some (.ref f2))) (l2:K.lookup f2=some ⟨p2,q2,.func (W.fnOf "laid_over" "laid_over" (aR zW) (aE zW) (aA zW) .none t2 u2 w2 x2 y2 m2),r2⟩) (c2:W.codeIn K y2 "laid_over"=true) (k2:W.keepIn K (.ref f2)=true)
  (a3:W.nsIn K mainGlobals "mirrored"=some (some (.ref f3))) (l3:K.lookup f3=some ⟨p3,q3,.func (W.fnOf "mirrored" "mirrored" (aR zV) (aE zV) (aA zV) .none t3 u3 w3 x3 y3 m3),r3⟩) (c3:W.codeIn K y3 "mirrored"=true) (k3:W.keepIn K (.ref f3)=true)
  (a4:W.nsIn K mainGlobals "takes_column"=some (some (.ref f4))) (l4:K.lookup f4=some ⟨p4,q4,.func (W.fnOf "takes_column" "takes_column" (aR ll) (aE ll) (aA ll) .none t4 u4 w4 x4 y4 m4),r4⟩) (c4:W.codeIn K y4 "takes_column"=true) (k4:W.keepIn K (.ref f4)=true)
  (a5:W.nsIn K mainGlobals "holders_of"=some (some (.ref f5))) (l5:K.lookup f5=some ⟨p5,q5,.func (W.fnOf "holders_of" "holders_of" (aR qQ) (aE qQ) (aA qQ) .none t5 u5 w5 x5 y5 m5),r5⟩) (c5:W.codeIn K y5 "holders_of"=true) (k5:W.keepIn K (.ref f5)=true)
  (a6:W.nsIn K mainGlobals "others"=some (some (.ref f6))) (l6:K.lookup f6=some ⟨p6,q6,.func (W.fnOf "others" "others" (aR nz) (aE nz) (aA nz) .none t6 u6 w6 x6 y6 m6),r6⟩) (c6:W.codeIn K y6 "others"=true) (k6:W.keepIn K (.ref f6)=true)
  (a7:W.nsIn K mainGlobals "reached"=some (some (.ref f7))) (l7:K.lookup f7=some ⟨p7,q7,.func (W.fnOf "reached" "reached" (aR ny) (aE ny) (aA ny) .none t7 u7 w7 x7 y7 m7),r7⟩) (c7:W.codeIn K y7 "reached"=true) (k7:W.keepIn K (.ref f7)=true)
  (a8:W.nsIn K mainGlobals "most_of"=some (some (.ref f8))) (l8:K.lookup f8=some ⟨p8,q8,.func (W.fnOf "most_of" "most_of" (aR nw) (aE nw) (aA nw) .none t8 u8 w8 x8 y8 m8),r8⟩) (c8:W.codeIn K y8 "most_of"=true) (k8:W.keepIn K (.ref f8)=true)
  (a9:W.nsIn K mainGlobals "bits_of"=some (some (.ref f9))) (l9:K.lookup f9=some ⟨p9,q9,.func (W.fnOf "bits_of" "bits_of" (aR zT) (aE zT) (aA zT) .none t9 u9 w9 x9 y9 m9),r9⟩) (c9:W.codeIn K y9 "bits_of"=true) (k9:W.keepIn K (.ref f9)=true)
  (a10:W.nsIn K mainGlobals "with_line"=some (some (.ref f10))) (l10:K.lookup f10=some ⟨p10,q10,.func (W.fnOf "with_line" "with_line" (aR Bq) (aE Bq) (aA Bq) .none t10 u10 w10 x10 y10 m10),r10⟩) (c10:W.codeIn K y10 "with_line"=true) (k10:W.keepIn K (.ref f10)=true)
  (a11:W.nsIn K mainGlobals "row_of"=some (some (.ref f11))) (l11:K.lookup f11=some ⟨p11,q11,.func (W.fnOf "row_of" "row_of" (aR zS) (aE zS) (aA zS) .none t11 u11 w11 x11 y11 m11),r11⟩) (c11:W.codeIn K y11 "row_of"=true) (k11:W.keepIn K (.ref f11)=true)
  (a12:W.nsIn K mainGlobals "_law_cell"=some (some (.ref f12))) (l12:K.lookup f12=some ⟨p12,q12,.func (W.fnOf "_law_cell" "_law_cell" (aR s4) (aE s4) (aA s4) .none t12 u12 w12 x12 y12 m12),r12⟩) (c12:W.codeIn K y12 "_law_cell"=true) (k12:W.keepIn K (.ref f12)=true)
  (a13:W.nsIn K mainGlobals "_law_mixed"=some (some (.ref f13))) (l13:K.lookup f13=some ⟨p13,q13,.func (W.fnOf "_law_mixed" "_law_mixed" (aR s5) (aE s5) (aA s5) .none t13 u13 w13 x13 y13 m13),r13⟩) (c13:W.codeIn K y13 "_law_mixed"=true) (k13:W.keepIn K (.ref f13)=true)
  (a14:W.nsIn K mainGlobals "_law_deep"=some (some (.ref f14))) (l14:K.lookup f14=some ⟨p14,q14,.func (W.fnOf "_law_deep" "_law_deep" (aR zU) (aE zU) (aA zU) .none t14 u14 w14 x14 y14 m14),r14⟩) (c14:W.codeIn K y14 "_law_deep"=true) (k14:W.keepIn K (.ref f14)=true)
  (a15:W.nsIn K mainGlobals "_law_board"=some (some (.ref f15))) (l15:K.lookup f15=some ⟨p15,q15,.func (W.fnOf "_law_board" "_law_board" (aR s6) (aE s6) (aA s6) .none t15 u15 w15 x15 y15 m15),r15⟩) (c15:W.codeIn K y15 "_law_board"=true) (k15:W.keepIn K (.ref f15)=true)
  (a16:W.nsIn K mainGlobals "_law_cells"=some (some (.ref f16))) (l16:K.lookup f16=some ⟨p16,q16,.func (W.fnOf "_law_cells" "_law_cells" (aR s7) (aE s7) (aA s7) .none t16 u16 w16 x16 y16 m16),r16⟩) (c16:W.codeIn K y16 "_law_cells"=true) (k16:W.keepIn K (.ref f16)=true)
  (a17:W.nsIn K mainGlobals "_law_placing"=some (some (.ref f17))) (l17:K.lookup f17=some ⟨p17,q17,.func (W.fnOf "_law_placing" "_law_placing" (aR nu) (aE nu) (aA nu) .none t17 u17 w17 x17 y17 m17),r17⟩) (c17:W.codeIn K y17 "_law_placing"=true) (k17:W.keepIn K (.ref f17)=true)
  (a18:W.nsIn K mainGlobals "law"=some (some (.ref f18))) (l18:K.lookup f18=some ⟨p18,q18,.func (W.fnOf "law" "law" (aR i8) (aE i8) (aA i8) .none t18 u18 w18 x18 y18 m18),r18⟩) (c18:W.codeIn K y18 "law"=true) (k18:W.keepIn K (.ref f18)=true)
  (z0:W.nsIn K mainGlobals "len"=some none)
  (z1:W.nsIn K mainGlobals "int"=some none)
  (z2:W.nsIn K mainGlobals "list"=some none)
  (z3:W.nsIn K mainGlobals "tuple"=some none)
  (z4:W.nsIn K mainGlobals "range"=some none)
  (z5:W.nsIn K mainGlobals "enumerate"=some none)
  (z6:W.nsIn K mainGlobals "sorted"=some none)
  (z7:W.nsIn K mainGlobals "sum"=some none)
  (z8:W.nsIn K mainGlobals "dict"=some none)
  (v0:W.nsIn K mainGlobals "CELL"=some (some (.str "x" tk0)))
  :
  ∃fd:FuncData,(∀(s:Shared)(v:Value),BindsTo s fd ⟨[v],[]⟩ [("_law_script",v)])/\∀base:Heap,K.In base->base.Ns mainGlobals mg->bP l.prog w K mg base jK 40 fa fd ["_law_script"] (pH K):=by
 have hB:∀x,B.contains x=true->mg x=none:=fW (nO X Gh z0) (fW (nO X Gh z1) (fW (nO X Gh z2) (fW (nO X Gh z3) (fW (nO X Gh z4) (fW (nO X Gh z5) (fW (nO X Gh z6) (fW (nO X Gh z7) (fW (nO X Gh z8) (bnil)))))))));have e:=hfa.symm.trans (W.mg_of X Gh a18);cases e;have E0:=nP (k:=109) X Gh a0 l0 c0 k0 DR Cb rfl B8;have E1:=nP (k:=13) X Gh a1 l1 c1 k1 bd13 sc13 rfl tr13;have E2:=nP (k:=14) X Gh a2 l2 c2 k2 bd14 sc14 rfl tr14;have E3:=nP (k:=15) X Gh a3 l3 c3 k3 bd15 sc15 rfl tr15;have D4:=mkD X Gh a4 l4 c4 k4 DQ;have E4:rT K mg P F G B "takes_column" 110 f4 _ ["choices","holders","row","tried"]:=⟨.inl ⟨D4.nm,D4.fn.kp,D4.bd,vk (qD rfl)⟩⟩;have D5:=mkD X Gh a5 l5 c5 k5 DP;have E5:rT K mg P F G B "holders_of" 111 f5 _ ["choices"]:=⟨.inl ⟨D5.nm,D5.fn.kp,D5.bd,xU (hB "len" rfl) (hB "range" rfl) D4 D5⟩⟩;have E6:=nP (k:=112) X Gh a6 l6 c6 k6 DO Ca rfl B7;have E7:=nP (k:=113) X Gh a7 l7 c7 k7 DN CZ rfl B6;have E8:=nP (k:=114) X Gh a8 l8 c8 k8 DM CY rfl B5;have E9:=nP (k:=46) X Gh a9 l9 c9 k9 bd46 sc46 rfl tr46;have D10:=mkD X Gh a10 l10 c10 k10 bd47;have E10:rT K mg P F G B "with_line" 47 f10 _ ["levels","bits"]:=⟨.inl ⟨D10.nm,D10.fn.kp,D10.bd,Av (hB "dict" rfl) (hB "enumerate" rfl) D10⟩⟩;have E11:=nP (k:=48) X Gh a11 l11 c11 k11 bd48 sc48 rfl tr48;have E12:=nP (k:=4) X Gh a12 l12 c12 k12 bd4 sc4 rfl tr4;have E13:=nP (k:=5) X Gh a13 l13 c13 k13 bd5 sc5 rfl tr5;have E14:=nP (k:=20) X Gh a14 l14 c14 k14 bd20 sc20 rfl tr20;have E15:=nP (k:=6) X Gh a15 l15 c15 k15 bd6 sc6 rfl tr6;have E16:=nP (k:=7) X Gh a16 l16 c16 k16 bd7 sc7 rfl tr7;have E17:=nP (k:=124) X Gh a17 l17 c17 k17 DL CW rfl B4;have E18:=nP (k:=125) X Gh a18 l18 c18 k18 DK CV rfl B3;have hF:∀x f,F.lookup x=some f->∃a fd ps,rT K mg P F G B x f a fd ps:=bN ⟨_,_,_,E0⟩ (bN ⟨_,_,_,E1⟩ (bN ⟨_,_,_,E2⟩ (bN ⟨_,_,_,E3⟩ (bN ⟨_,_,_,E4⟩ (bN ⟨_,_,_,E5⟩ (bN ⟨_,_,_,E6⟩ (bN ⟨_,_,_,E7⟩ (bN ⟨_,_,_,E8⟩ (bN ⟨_,_,_,E9⟩ (bN ⟨_,_,_,E10⟩ (bN ⟨_,_,_,E11⟩ (bN ⟨_,_,_,E12⟩ (bN ⟨_,_,_,E13⟩ (bN ⟨_,_,_,E14⟩ (bN ⟨_,_,_,E15⟩ (bN ⟨_,_,_,E16⟩ (bN ⟨_,_,_,E17⟩ (bN ⟨_,_,_,E18⟩ (fnil)))))))))))))))))));have hG:∀x v,G.lookup x=some v->∃u w,mg x=some u/\RelV w u/\∀Hi n H,Rp K Hi n v H w:=C6 ⟨_,(.str "x"),W.mg_of X Gh v0,⟨_,rfl⟩,fun _ _ _=>Rp.str.mpr rfl⟩ (gnil);exact⟨W.fnOf "law" "law" (aR i8) (aE i8) (aA i8) .none t18 u18 w18 x18 y18 m18,fun s v=>.of_eq rfl,fun base _ _=>AY (oN hG hB hF 40 "law" 125 fa _ _ E18) uS⟩
theorem walk{l:W.OpenLaw}{q:Program}{loose:List Str}{XP:(Str->Option Value)->Heap->Prop}{YP:World->Heap->Prop}{d:DefRec}{K:Params->W.Frag}(hn:l.most=some 63)(hdf:d.params.defaults=[])
  (hY:∀(w:World)(h:Heap),YP w h->(K w.params).In h)
  (F:∀(w:World)(mg:Str->Option Value)(fa:Addr)(h:Heap),(K w.params).In h->h.Ns mainGlobals mg->mg d.name=some (.ref fa) ->
   ∃fd:FuncData,(∀(s:Shared)(u:Value),BindsTo s fd ⟨[u],[]⟩ [("_law_script",u)])/\∀base:Heap,(K w.params).In base->base.Ns mainGlobals mg->bP l.prog w (K w.params) mg base jK 40 fa fd ["_law_script"] (pH (K w.params))) :
  W.WalkO q loose XP YP l.row.toRowW d [] (fun f vs=>PySem.call f vs) :=
 L2.vj (n:=63) (k:=40) (x:="_law_script") (CX:=fun _=>jK) (sp:=fun w=>pH (K w.params)) hn (by decide) hdf ⟨rfl,by decide,by decide⟩ hY F (fun _ _ a ns hl _ hS=>⟨a,ns,rfl,hS,hl,fun _=>rfl⟩) fun _ _ _ _ _ z=>z
end Law
open PySem PySem.W PyProof.Rows
set_option maxRecDepth 100000 in
set_option maxHeartbeats 0 in
theorem PySem.Challenge.cw_unstruck_k43_whole_no_placing_has_more_holds : PySem.Challenge.rw_unstruck_k43_whole_no_placing_has_more.Holds := by
 w_on;o_law;k_head;(case hw=>w_witness2)
 k_fill
 refine Law.walk (l:=PySem.Challenge.rw_unstruck_k43_whole_no_placing_has_more) rfl rfl (fun w h Y=>PySem.W.kIn_of Y) ?F
 case F =>
  intro w mg fa h KX G hmg;refine' Law.BX KX G hmg ?a0 ?l0 ?c0 ?k0 ?a1 ?l1 ?c1 ?k1 ?a2 ?l2 ?c2 ?k2 ?a3 ?l3 ?c3 ?k3 ?a4 ?l4 ?c4 ?k4 ?a5 ?l5 ?c5 ?k5 ?a6 ?l6 ?c6 ?k6 ?a7 ?l7 ?c7 ?k7 ?a8 ?l8 ?c8 ?k8 ?a9 ?l9 ?c9 ?k9 ?a10 ?l10 ?c10 ?k10 ?a11 ?l11 ?c11 ?k11 ?a12 ?l12 ?c12 ?k12 ?a13 ?l13 ?c13 ?k13 ?a14 ?l14 ?c14 ?k14 ?a15 ?l15 ?c15 ?k15 ?a16 ?l16 ?c16 ?k16 ?a17 ?l17 ?c17 ?k17 ?a18 ?l18 ?c18 ?k18 ?z0 ?z1 ?z2 ?z3 ?z4 ?z5 ?z6 ?z7 ?z8 ?v0
  (case a0|l0|c0|k0|a1|l1|c1|k1|a2|l2|c2|k2=>k_is)
  (case a3|l3|c3|k3|a4|l4|c4|k4|a5|l5|c5|k5=>k_is)
  (case a6|l6|c6|k6|a7|l7|c7|k7|a8|l8|c8|k8=>k_is)
  (case a9|l9|c9|k9|a10|l10|c10|k10|a11|l11|c11|k11=>k_is)
  (case a12|l12|c12|k12|a13|l13|c13|k13|a14|l14|c14|k14=>k_is)
  (case a15|l15|c15|k15|a16|l16|c16|k16|a17|l17|c17|k17=>k_is)
  (case a18|l18|c18|k18|z0|z1|z2|z3|z4|z5|z6|z7=>k_is)
  (case z8|v0=>k_is)
#print axioms PySem.Challenge.cw_unstruck_k43_whole_no_placing_has_more_holds
