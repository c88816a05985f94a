import PyProof.Rows.All
import Wide.All
import OpenK.AllK
import PySem.Challenge.RW_unstruck_k81_whole_report
set_option bootstrap.genMatcherCode false
noncomputable section
local macro_rules|`($m:declModifiers def $i:declId $s:optDeclSig $v:declVal)=>if m.raw.getArgs.all (·.getNumArgs==0) then(if v.raw[1].isOfKind ``Lean.Parser.Term.byTactic||v.raw[1].getId==`rfl then let t:Lean.TSyntax ``Lean.Parser.Command.declSig:=⟨Lean.mkNode ``Lean.Parser.Command.declSig #[s.raw[0],s.raw[1][0]]⟩;`(theorem $i:declId $t:declSig $v:declVal) else`(noncomputable def $i:declId $s:optDeclSig $v:declVal)) else Lean.Macro.throwUnsupported
local macro_rules|`($m:declModifiers abbrev $i:declId $s:optDeclSig $v:declVal)=>if m.raw.getArgs.all (·.getNumArgs==0) then`(noncomputable abbrev $i:declId $s:optDeclSig $v:declVal) else Lean.Macro.throwUnsupported
set_option genSizeOf false
set_option genSizeOfSpec false
set_option compiler.extract_closed false
set_option compiler.reuse false
set_option Elab.async false
set_option linter.all false
set_option maxRecDepth 100000
set_option maxHeartbeats 4000000
local macro_rules|`(tactic|symm%$k)=>if k.getHeadInfo matches .original .. then`(tactic|walk_at "ev") else Lean.Macro.throwUnsupported
local macro_rules|`(tactic|ext%$k $x:rintroPat)=>if k.getHeadInfo matches .original .. then let y:Lean.Term:=⟨x.raw[0][0]⟩;`(tactic|cases $y:term) else Lean.Macro.throwUnsupported
local macro_rules|`(tactic|show%$k $t)=>if k.getHeadInfo matches .original .. then`(tactic|refine $t) else Lean.Macro.throwUnsupported
local macro_rules|`(tactic|let%$k $d:letDecl)=>if k.getHeadInfo matches .original .. then let d:=d.raw[0];let p:=d[0];if p.isOfKind ``Lean.Parser.Term.anonymousCtor then do
 let e:Lean.Term:=⟨d[4]⟩
 let f:=λs=>(Lean.mkIdent (.mkSimple s)).1;let x:=p[1].getSepArgs
 let y:=x.mapIdx λi x=>if x.getId==`rfl then f s!"R_{i}" else x
 let z:=(y.filter (!x.contains ·)).map λx=>(⟨x⟩:Lean.Term)
 let h<-`(tactic|first|refine f fun x=>?_)
 let h:=h.1
 let q:Lean.TSyntax `tactic:=⟨h.setArg 1 (Lean.mkNullNode ((Array.range 7).map λm=>h[1][0].rewriteBottomUp λs=>if s.isIdent then f s!"X_{m}{x.size-m}" else if s.isOfKind ``Lean.Parser.Term.basicFun then s.setArg 0 (Lean.mkNullNode y) else s))⟩
 let q<-`(tactic|(refine (?_:_→_) $e;(try clear $e);$q:tactic));if z.size==0 then return q else`(tactic|($q:tactic;subst $z*)) else if p[0].getId==`Wh then Lean.Macro.throwUnsupported else`(tactic|have $(⟨Lean.mkNode ``Lean.Parser.Term.letDecl #[d]⟩):letDecl) else Lean.Macro.throwUnsupported
local macro_rules|`(tactic|exists%$k $x,*)=>if k.getHeadInfo matches .original .. then do
 let h<-`(tactic|first|refine f)
 let h:=h.1;let x:=x.getElems
 return h.setArg 1 (Lean.mkNullNode (#[1,2,3,4,5].map λm=>h[1][0].rewriteBottomUp λs=>if s.isIdent then Lean.Syntax.mkApp (Lean.mkIdent (.mkSimple s!"Y_{m}{x.size-m}")) x else s)) else Lean.Macro.throwUnsupported
local macro_rules|`(open $d)=>match d.raw[0][0].getId with|`H=>`(set_option tactic.hygienic false)|`J=>`(set_option tactic.hygienic true)|_=>Lean.Macro.throwUnsupported
local macro_rules|`($n:num)=>match n.raw[0].getAtomVal with|"00"=>`(by lia)|"01"=>`(by decide +kernel)|"02"=>`(by decide)|"03"=>`(by simp)|"04"=>`(by kernel_rfl)|"05"=>`(by walk_at "sc")|"06"=>`(by walk_at "bd1")|"07"=>`((.cons (.var 0) .nil))|"08"=>`((.cons (.con .non) .nil))|"09"=>`((.cons (.var 1) .nil))|"000"=>`(by simp;lia)|_=>Lean.Macro.throwUnsupported
section
variable{a b c d e f G H I g:Prop}
def X_02(k:a->b->g):=λ(h:a/\b)=>k h.1 h.2
def X_03(k:a->b->c->g):=λ(h:a/\b/\c)=>k h.1 h.2.1 h.2.2
def X_04(k:a->b->c->d->g):=λ(h:a/\b/\c/\d)=>k h.1 h.2.1 h.2.2.1 h.2.2.2
def X_05(k:a->b->c->d->e->g):=λ(h:a/\b/\c/\d/\e)=>k h.1 h.2.1 h.2.2.1 h.2.2.2.1 h.2.2.2.2
def X_06(k:a->b->c->d->e->f->g):=λ(h:a/\b/\c/\d/\e/\f)=>k h.1 h.2.1 h.2.2.1 h.2.2.2.1 h.2.2.2.2.1 h.2.2.2.2.2
def X_07(k:a->b->c->d->e->f->G->g):=λ(h:a/\b/\c/\d/\e/\f/\G)=>k h.1 h.2.1 h.2.2.1 h.2.2.2.1 h.2.2.2.2.1 h.2.2.2.2.2.1 h.2.2.2.2.2.2
def X_08(k:a->b->c->d->e->f->G->H->g):=λ(h:a/\b/\c/\d/\e/\f/\G/\H)=>k h.1 h.2.1 h.2.2.1 h.2.2.2.1 h.2.2.2.2.1 h.2.2.2.2.2.1 h.2.2.2.2.2.2.1 h.2.2.2.2.2.2.2
def X_09(k:a->b->c->d->e->f->G->H->I->g):=λ(h:a/\b/\c/\d/\e/\f/\G/\H/\I)=>k h.1 h.2.1 h.2.2.1 h.2.2.2.1 h.2.2.2.2.1 h.2.2.2.2.2.1 h.2.2.2.2.2.2.1 h.2.2.2.2.2.2.2.1 h.2.2.2.2.2.2.2.2
def X_11{p:α->Prop}(k:∀x,p x->g):=λ(h:∃x,p x)=>h.elim k
def X_12{p q:α->Prop}(k:∀x,p x->q x->g):=X_11 λx=>X_02 (k x)
def X_13{p q r:α->Prop}(k:∀x,p x->q x->r x->g):=X_11 λx=>X_03 (k x)
def X_14{p q r s:α->Prop}(k:∀x,p x->q x->r x->s x->g):=X_11 λx=>X_04 (k x)
def X_15{p q r s t:α->Prop}(k:∀x,p x->q x->r x->s x->t x->g):=X_11 λx=>X_05 (k x)
def X_21{p:α->β->Prop}(k:∀x y,p x y->g):=X_11 λx=>X_11 (k x)
def X_22{p q:α->β->Prop}(k:∀x y,p x y->q x y->g):=X_21 λx y=>X_02 (k x y)
def X_23{p q r:α->β->Prop}(k:∀x y,p x y->q x y->r x y->g):=X_21 λx y=>X_03 (k x y)
def X_24{p q r s:α->β->Prop}(k:∀x y,p x y->q x y->r x y->s x y->g):=X_21 λx y=>X_04 (k x y)
def X_25{p q r s t:α->β->Prop}(k:∀x y,p x y->q x y->r x y->s x y->t x y->g):=X_21 λx y=>X_05 (k x y)
def X_26{p q r s t u:α->β->Prop}(k:∀x y,p x y->q x y->r x y->s x y->t x y->u x y->g):=X_21 λx y=>X_06 (k x y)
def X_31{p:α->β->γ->Prop}(k:∀x y z,p x y z->g):=X_11 λx=>X_21 (k x)
def X_32{p q:α->β->γ->Prop}(k:∀x y z,p x y z->q x y z->g):=X_31 λx y z=>X_02 (k x y z)
def X_33{p q r:α->β->γ->Prop}(k:∀x y z,p x y z->q x y z->r x y z->g):=X_31 λx y z=>X_03 (k x y z)
def X_34{p q r s:α->β->γ->Prop}(k:∀x y z,p x y z->q x y z->r x y z->s x y z->g):=X_31 λx y z=>X_04 (k x y z)
def X_35{p q r s t:α->β->γ->Prop}(k:∀x y z,p x y z->q x y z->r x y z->s x y z->t x y z->g):=X_31 λx y z=>X_05 (k x y z)
def X_36{p q r s t u:α->β->γ->Prop}(k:∀x y z,p x y z->q x y z->r x y z->s x y z->t x y z->u x y z->g):=X_31 λx y z=>X_06 (k x y z)
def X_41{p:α->β->γ->δ->Prop}(k:∀x y z i,p x y z i->g):=X_11 λx=>X_31 (k x)
def X_42{p q:α->β->γ->δ->Prop}(k:∀x y z i,p x y z i->q x y z i->g):=X_41 λx y z i=>X_02 (k x y z i)
def X_51{p:α->β->γ->δ->ε->Prop}(k:∀x y z i j,p x y z i j->g):=X_11 λx=>X_41 (k x)
def X_61{p:α->β->γ->δ->ε->ζ->Prop}(k:∀x y z i j l,p x y z i j l->g):=X_11 λx=>X_51 (k x)
def X_62{p q:α->β->γ->δ->ε->ζ->Prop}(k:∀x y z i j l,p x y z i j l->q x y z i j l->g):=X_61 λx y z i j l=>X_02 (k x y z i j l)
def X_71{p:α->β->γ->δ->ε->ζ->η->Prop}(k:∀x y z i j l m,p x y z i j l m->g):=X_11 λx=>X_61 (k x)
def X_81{p:α->β->γ->δ->ε->ζ->η->θ->Prop}(k:∀x y z i j l m n,p x y z i j l m n->g):=X_11 λx=>X_71 (k x)
def X_91{p:α->β->γ->δ->ε->ζ->η->θ->ι->Prop}(k:∀x y z i j l m n o,p x y z i j l m n o->g):=X_11 λx=>X_81 (k x)
def X_101{p:α->β->γ->δ->ε->ζ->η->θ->ι->κ->Prop}(k:∀x y z i j l m n o A,p x y z i j l m n o A->g):=X_11 λx=>X_91 (k x)
def Y_12{p q:α->Prop}(x)(a:p x)(b:q x):∃x,p x/\q x:=⟨_,a,b⟩
def Y_13{p q r:α->Prop}(x)(a:p x)(b:q x)(c:r x):∃x,p x/\q x/\r x:=⟨_,a,b,c⟩
def Y_14{p q r s:α->Prop}(x)(a:p x)(b:q x)(c:r x)(d:s x):∃x,p x/\q x/\r x/\s x:=⟨_,a,b,c,d⟩
def Y_15{p q r s t:α->Prop}(x)(a:p x)(b:q x)(c:r x)(d:s x)(e:t x):∃x,p x/\q x/\r x/\s x/\t x:=⟨_,a,b,c,d,e⟩
def Y_21{p:α->β->Prop}(x y)(a:p x y):∃x y,p x y:=⟨_,_,a⟩
def Y_22{p q:α->β->Prop}(x y)(a:p x y)(b:q x y):∃x y,p x y/\q x y:=⟨_,_,a,b⟩
def Y_23{p q r:α->β->Prop}(x y)(a:p x y)(b:q x y)(c:r x y):∃x y,p x y/\q x y/\r x y:=⟨_,_,a,b,c⟩
def Y_24{p q r s:α->β->Prop}(x y)(a:p x y)(b:q x y)(c:r x y)(d:s x y):∃x y,p x y/\q x y/\r x y/\s x y:=⟨_,_,a,b,c,d⟩
def Y_25{p q r s t:α->β->Prop}(x y)(a:p x y)(b:q x y)(c:r x y)(d:s x y)(e:t x y):∃x y,p x y/\q x y/\r x y/\s x y/\t x y:=⟨_,_,a,b,c,d,e⟩
def Y_26{p q r s t u:α->β->Prop}(x y)(a:p x y)(b:q x y)(c:r x y)(d:s x y)(e:t x y)(f:u x y):∃x y,p x y/\q x y/\r x y/\s x y/\t x y/\u x y:=⟨_,_,a,b,c,d,e,f⟩
def Y_31{p:α->β->γ->Prop}(x y z)(a:p x y z):∃x y z,p x y z:=⟨_,_,_,a⟩
def Y_32{p q:α->β->γ->Prop}(x y z)(a:p x y z)(b:q x y z):∃x y z,p x y z/\q x y z:=⟨_,_,_,a,b⟩
def Y_33{p q r:α->β->γ->Prop}(x y z)(a:p x y z)(b:q x y z)(c:r x y z):∃x y z,p x y z/\q x y z/\r x y z:=⟨_,_,_,a,b,c⟩
def Y_34{p q r s:α->β->γ->Prop}(x y z)(a:p x y z)(b:q x y z)(c:r x y z)(d:s x y z):∃x y z,p x y z/\q x y z/\r x y z/\s x y z:=⟨_,_,_,a,b,c,d⟩
def Y_35{p q r s t:α->β->γ->Prop}(x y z)(a:p x y z)(b:q x y z)(c:r x y z)(d:s x y z)(e:t x y z):∃x y z,p x y z/\q x y z/\r x y z/\s x y z/\t x y z:=⟨_,_,_,a,b,c,d,e⟩
def Y_36{p q r s t u:α->β->γ->Prop}(x y z)(a:p x y z)(b:q x y z)(c:r x y z)(d:s x y z)(e:t x y z)(f:u x y z):∃x y z,p x y z/\q x y z/\r x y z/\s x y z/\t x y z/\u x y z:=⟨_,_,_,a,b,c,d,e,f⟩
def Y_41{p:α->β->γ->δ->Prop}(x y z i)(a:p x y z i):∃x y z i,p x y z i:=⟨_,_,_,_,a⟩
def Y_45{p q r s t:α->β->γ->δ->Prop}(x y z i)(a:p x y z i)(b:q x y z i)(c:r x y z i)(d:s x y z i)(e:t x y z i):∃x y z i,p x y z i/\q x y z i/\r x y z i/\s x y z i/\t x y z i:=⟨_,_,_,_,a,b,c,d,e⟩
def Y_56{p q r s t u:α->β->γ->δ->ε->Prop}(x y z i j)(a:p x y z i j)(b:q x y z i j)(c:r x y z i j)(d:s x y z i j)(e:t x y z i j)(f:u x y z i j):∃x y z i j,p x y z i j/\q x y z i j/\r x y z i j/\s x y z i j/\t x y z i j/\u x y z i j:=⟨_,_,_,_,_,a,b,c,d,e,f⟩
end
def Y_{p:α->β->γ->δ->ε->ζ->η->θ->ι->κ->Prop}(h:p x y z i j l m n o t):∃x y z i j l m n o t,p x y z i j l m n o t:=⟨_,_,_,_,_,_,_,_,_,_,h⟩
def M0:=@List.length_map
def M1:=@PySem.wpAny_bind
def M3:=@PySem.Heap.get?_push_of_some
def M4:=@List.mem_cons_of_mem
def M5:=@List.getElem?_eq_getElem
def M6:=@List.getD_eq_getElem?_getD
def M7:=@List.mem_cons_self
def M8:=@Bool.and_eq_true
def M9:=@if_pos
def NA:=@List.mem_map
def NB:=@Nat.le_refl
def NC:=@List.getElem?_eq_some_iff
def ND:=@Bool.false_ne_true
def NE:=@List.map_cons
def NG:=@List.getElem?_map
def NH:=@List.mem_cons
def NJ:=@if_neg
def NK:=@PySem.wpAny_pure
def NM:=@List.size_toArray
def NO:=@List.length_append
def NP:=@List.map_append
def NQ:=@PySem.Heap.lt_size
def NR:=@PySem.Heap.get?_push_size
def NS:=@List.mem_of_getElem?
def NT:=@List.length_range
def NU:=@Option.bind_some
def NV:=@List.all_eq_true
def NW:=@List.length_cons
def NX:=@decide_eq_true
def NY:=@List.map_map
def NZ:=@List.contains_iff_mem
def Na:=@Nat.ne_of_lt
def Nb:=@List.mem_singleton
def Nc:=@List.mem_append
def Nd:=@Nat.le_trans
def Nf:=@Option.some.inj
def Ng:=@Array.length_toList
def Nh:=@LawfulBEq.eq_of_beq
def Ni:=@List.mem_append_left
def Nj:=@of_decide_eq_true
def Nk:=@List.not_mem_nil
def Nl:=@List.getElem?_eq_none
def Nm:=@List.mem_range
def No:=@Nat.zero_le
def Np:=@List.nodup_cons
def Nq:=@Nat.lt_of_lt_of_le
def Nr:=@List.mem_append_right
def Nt:=@PySem.Heap.get?_update_other
def Nu:=@decide_eq_false
def Nv:=@List.mem_filter
def Nw:=@List.length_filter_le
def Nx:=@PySem.mem_of_lookup
def Ny:=@PySem.PassesOwn.never
def Nz:=@List.getElem?_range
def N4:=@PySem.sizeLine_eq
def N5:=@List.getElem?_set_ne
def N6:=@congrArg
def N7:=@List.take_length
def N8:=@List.lookup_cons
def N9:=@Int.toNat_natCast
def OA:=@List.find?_cons
def OB:=@PySem.Heap.get?_update_self
def OC:=@Ne.symm
def OD:=@List.getElem?_append_left
def OE:=@List.getElem_mem
def OF:=@List.length_take
def OG:=@Nat.lt_succ_of_lt
def OH:=@List.map_nil
def OI:=@List.getElem?_set_self
def OJ:=@Option.map_some
def OK:=@List.append_nil
def OL:=@Bool.eq_iff_iff
def OM:=@List.map_congr_left
def ON:=@PyProof.Rows.callWith_type1
def OO:=@List.take_add_one
def OP:=@PySem.wpAny_holding
def OQ:=@PySem.F.plainAttrs_list
def OR:=@PySem.wpAny_mono
def OS:=@PySem.wpAny_truthy_bool
def OT:=@List.contains_cons
def OU:=@List.length_set
def OV:=@decide_eq_true_eq
def OW:=@Array.getElem?_toList
def OX:=@Nat.pow_le_pow_right
def OY:=@List.getElem?_cons_succ
def OZ:=@PySem.Obj.data_mapFields
def Oa:=@or_false
def Ob:=@PySem.wpAny_call_entry
def Oc:=@Bool.eq_false_iff
def Od:=@Bool.or_eq_true
def Oe:=@Classical.byContradiction
def Of:=@PySem.Heap.size_push
def Og:=@beq_iff_eq
def Oh:=@Nat.lt_of_le_of_lt
def Oi:=@Nat.ne_of_gt
def Oj:=@List.nodup_append
def Ol:=@List.replicate_succ
def Om:=@PySem.wpAny_newObj_type
def On:=@Nat.lt_irrefl
def Oo:=@List.filter_cons
def Op:=@List.any_eq_true
def Oq:=@List.lookup_append
def Os:=@List.drop_eq_getElem_cons
def Ot:=@Nat.lt_trans
def Ou:=@Nat.le_of_lt
def Ov:=@List.mem_iff_getElem
def Ow:=@List.ext_getElem?
def Ox:=@PySem.Obj.isFreed_of_fields
def Oy:=@List.sum_cons
def Oz:=@PySem.wpAny_loadPart'
def O0:=@List.length_zipWith
def O3:=@PySem.wpAny_loadPart_at
def O4:=@Option.getD_some
def O5:=@List.getElem_map
def O6:=@if_true
def O7:=@decide_false
def O8:=@PySem.F.plainAttrs_str
def O9:=@List.zip_cons_cons
def PB:=@List.getElem_range
def PD:=@List.all_map
def PF:=@PySem.wpAny_setField
def PH:=@PySem.W.kia_one
def PJ:=@List.range_succ
def PK:=@List.any_cons
def PL:=@PyProof.Rows.boot_int
def PM:=@List.length_singleton
def PN:=@Bool.beq_eq_decide_eq
def PP:=@List.getElem?_set
def PQ:=@List.foldl_append
def PR:=@List.flatten_cons
def PU:=@List.append_assoc
def PX:=@PySem.wpAny_passesOwn
def PY:=@Nat.le_succ
def PZ:=@List.getElem?_append_right
def Pa:=@Array.getElem?_eq_some_iff
def Pb:=@decide_eq_decide
def Pc:=@Nat.min_self
def Pd:=@Int.add_zero
def Pe:=@beq_eq_false_iff_ne
def Pf:=@PyProof.Rows.F.plain_set_update_loop
def Pg:=@List.filter_sublist
def Ph:=@List.filterMap_cons
def Pi:=@PySem.call_meets
def Pj:=@PySem.Around.under_plainId
def Pk:=@List.map_take
def Pl:=@PySem.wpAny_askSetting
def Pm:=@List.filter_append
def Pn:=@Int.emod_lt_of_pos
def Po:=@Bool.false_eq_true
def Pp:=@PySem.F.plainAttrs_dict
def Pq:=@PyProof.Rows.boot_tuple
def Pr:=@PySem.Heap.SameBut.update
def Ps:=@if_false
def Pt:=@PySem.boot_len
def Pu:=@PyProof.Rows.boot_list
def Px:=@List.take_of_length_le
def Py:=@List.reverse_cons
def Pz:=@List.pairwise_map
def P0:=@PySem.codeAny_builtin
def P1:=@PySem.wpAny_Call_Name_kw
def P2:=@PySem.wpAny_field
def P4:=@PySem.wpAny_callSpecial?_slot
def P5:=@List.getElem?_zipWith
def P6:=@List.perm_middle
def P7:=@List.cons_append
def P8:=@List.map_drop
def P9:=@List.all_cons
def QA:=@PySem.wpAny_setState_of
def QB:=@PySem.codeAny_mono
def QC:=@PySem.Str.cps_append
def QD:=@PySem.Calls.callWith_builtin
def QE:=@List.nil_append
def QF:=@Int.emod_nonneg
def QG:=@Nat.pow_le_pow_left
def QH:=@PySem.typeIs_str
def QI:=@Nat.zero_add
def QJ:=@Nat.succ_mul
def QK:=@Int.zero_add
def QL:=@Int.mul_zero
def QM:=@Bool.or_true
def QN:=@PySem.Heap.get?_none_of_le
def QO:=@Nat.mul_le_mul
def QP:=@Bool.false_and
def QQ:=@PySem.wpAny_execs_nil
def QR:=@PySem.wpAny_isSubtype_exc
def QS:=@Int.le_refl
def QT:=@PySem.F.type_list_append
def QU:=@PySem.F.slot_list_append
def QV:=@PySem.F.slot_dict_values
def QW:=@PySem.wpAny_pyIter_tuple
def QX:=@PySem.tupleKind_room_in1
def QY:=@PySem.wpAny_pyIter_list
def QZ:=@PySem.wpAny_pyIter_enum
def Qa:=@PySem.Obj.cls_mapFields
def Qb:=@PySem.wpAny_standAt
namespace IR
open PySem
def clsB:Stmt->Nat->Stmt
 | .ClassDef _ _ _ body _ _ _ _ _ _ _,i=>body.getD i (.Pass ⟨0,0,0,0⟩)|s,_=>s
end IR
namespace L2.XN
open PySem
abbrev bmV:List Value:=[.type "ValueError",.type "Exception",.type "BaseException",.type "object"]
def excInI(K:W.Frag)(C a:Addr):Bool:=match K.lookup C with
 |some ⟨.type "type",_,.cls cd,sl⟩=>(match cd.mro,sl.toList with
  | .ref C' ::bm,[_,_,_,_,some (.builtin n),_]=>C' ==C&&n=="ValueError.__new__"&& !cd.hasDel&&W.tailIn K bmV bm&&W.nsOkIn K cd.ns&&W.nsIn K cd.ns "__init__"==some (some (.ref a))|_,_=>false)
 |_=>false
end L2.XN
namespace L2
open PySem
def cF(s:Stmt):Arguments:=match s with
 | .FunctionDef _ a _ _ _ _ _ _ _ _=>a|_=>{posonlyargs:=[],args:=[],vararg:=none,kwonlyargs:=[],kw_defaults:=[],kwarg:=none,defaults:=[]}
def bO(s:Stmt):List Stmt:=match s with
 | .FunctionDef _ _ b _ _ _ _ _ _ _=>b|_=>[]
def aI(s:Stmt):Scope:=match s with
 | .FunctionDef _ _ _ _ _ _ a _ _ _=>a|_=>{kind:=.function,names:=[],isGenerator:=false,isCoroutine:=false}
end L2
namespace Law
open PySem
def eG(i:Nat):Stmt:=PySem.Challenge.pw_unstruck_k81_whole_report.main.body.getD i (.Pass ⟨0,0,0,0⟩)
abbrev s0:Stmt:=eG 4
abbrev s1:Stmt:=eG 5
abbrev s2:Stmt:=eG 6
abbrev s3:Stmt:=eG 7
abbrev s109:Stmt:=eG 8
abbrev s46:Stmt:=eG 10
abbrev s47:Stmt:=eG 11
abbrev s48:Stmt:=eG 12
abbrev s58:Stmt:=eG 18
abbrev s85:Stmt:=eG 19
abbrev s86:Stmt:=eG 20
abbrev s92:Stmt:=eG 21
abbrev s98:Stmt:=eG 23
abbrev s99:Stmt:=eG 24
abbrev A5:Stmt:=eG 26
abbrev HY:Stmt:=eG 27
abbrev s112:Stmt:=eG 28
abbrev s113:Stmt:=eG 29
abbrev s114:Stmt:=eG 30
abbrev s141:Stmt:=eG 32
abbrev s142:Stmt:=eG 33
abbrev A4:Stmt:=eG 34
abbrev D8:Stmt:=eG 35
abbrev s32:Stmt:=eG 37
abbrev s215:Stmt:=eG 39
abbrev s216:Stmt:=eG 40
abbrev yh:Stmt:=eG 41
abbrev s218:Stmt:=eG 42
abbrev s219:Stmt:=eG 44
abbrev vH:Stmt:=eG 45
abbrev yg:Stmt:=eG 46
abbrev vG:Stmt:=eG 47
abbrev D7:Stmt:=eG 48
abbrev A3:Stmt:=eG 49
abbrev s230:Stmt:=eG 50
abbrev s231:Stmt:=eG 51
abbrev s232:Stmt:=eG 52
abbrev s233:Stmt:=eG 53
abbrev s234:Stmt:=eG 54
abbrev s235:Stmt:=eG 55
abbrev s236:Stmt:=eG 56
abbrev s237:Stmt:=eG 57
abbrev s238:Stmt:=eG 58
abbrev s239:Stmt:=eG 59
abbrev sE:Stmt:=eG 60
structure FI(K:W.Frag)(nm:Str)(st:Stmt)(f:Addr)(oc kV doc pm cd ct:Value)(od an:Option Addr)(sl:Array (Option Value)):Prop where
 a:W.nsIn K mainGlobals nm=some (some (.ref f))
 l:K.lookup f=some ⟨oc,od,.func (W.fnOf nm nm (L2.cF st) (L2.bO st) (L2.aI st) .none kV doc pm an cd ct),sl⟩
 c:W.codeIn K cd nm=true
 k:W.keepIn K (.ref f)=true
def FX(K:W.Frag)(b:Str)(g:Stmt):Prop:=∃f j l a c d ct e h i,FI K b g f j l a c d ct e h i
abbrev sI:Stmt:=IR.clsB (eG 16) 0
structure CX(K:W.Frag)(g0 gi gT:Addr)(cd0:ClassData)(iq ix iz:Option Addr)(ir is_:Array (Option Value))(it iu iw iy im iv:Value)(in_:Nat):Prop where
 y0:W.nsIn K mainGlobals "NoStair"=some (some (.ref g0))
 yc0:W.clsIn K g0=some cd0
 yt0:W.typeIn K (.ref g0)=some (.type "type")
 j1:W.findIn K (.ref g0) "__init__"=some (some (.ref gi))
 i1:K.lookup gi=some ⟨.type "function",iq,.func (W.fnOf "__init__" "NoStair.__init__" (L2.cF sI) (L2.bO sI) (L2.aI sI) (.ref gT) it iu iw ix iy im),ir⟩
 i2:W.codeIn K iy "NoStair.__init__"=true
 i3:K.lookup gT=some ⟨iv,iz,.seq #[.none] in_,is_⟩
 h0:W.keepIn K (.ref g0)=true
 h1:W.findIn K (.ref g0) "__setattr__"=some (some (.builtin "object.__setattr__"))
 h2:W.hasDictIn K g0=true
 h3:W.takerIn K g0 "rows"=some none
 h4:W.findIn K (.ref g0) "rows"=some none
 e0:W.findIn K (.ref g0) "__getattribute__"=some (some (.builtin "BaseException.__getattribute__"))
 e1:W.findIn K (.ref g0) "__getattr__"=some none
 e2:W.findIn K (.ref g0) "__class__"=some (some (.builtin "object.__class__"))
 e3:W.specialIn K (.builtin "object.__class__") "__get__"=some (some (.builtin "getset_descriptor.__get__"))
 e4:W.takesIn K (.builtin "object.__class__")=some true
 e5:W.mroIn K g0 (.type "object")=some true
 e6:W.mroIn K g0 (.type "BaseException")=some true
 b0:W.subIn K (.ref g0) (.ref g0)=some true
 b7:W.subIn K (.ref g0) (.type "BaseException")=some true
 j0:L2.XN.excInI K g0 gi=true
structure Mj(K:W.Frag):Prop where
 a0:FX K "is_side" s0
 a1:FX K "is_line" s1
 a2:FX K "is_board" s2
 a3:FX K "cells_of" s3
 a4:FX K "columns_in" s109
 a5:FX K "bits_of" s46
 a6:FX K "with_line" s47
 a7:FX K "row_of" s48
 a8:FX K "number_at" s58
 a9:FX K "falling" s85
 a10:FX K "ways" s86
 a11:FX K "signed" s92
 a12:FX K "hits_at" s98
 a13:FX K "hits_of" s99
 a14:FX K "takes_column" A5
 a15:FX K "holders_of" HY
 a16:FX K "others" s112
 a17:FX K "reached" s113
 a18:FX K "most_of" s114
 a19:FX K "has_all_of" s141
 a20:FX K "crossing_rows" s142
 a21:FX K "steps_of" A4
 a22:FX K "factors_of" D8
 a23:FX K "read_board" s32
 a24:FX K "line_of" s215
 a25:FX K "words_of_most" s216
 a26:FX K "words_of_factors" yh
 a27:FX K "report" s218
 a28:FX K "_law_draws" s219
 a29:FX K "_law_next" vH
 a30:FX K "_law_order" yg
 a31:FX K "_law_stair" vG
 a32:FX K "_law_board" D7
 a33:FX K "_law_row" A3
 a34:FX K "_law_product" s230
 a35:FX K "_law_taken" s231
 a36:FX K "_law_hits" s232
 a37:FX K "_law_numbers" s233
 a38:FX K "_law_read" s234
 a39:FX K "_law_covers" s235
 a40:FX K "_law_columns" s236
 a41:FX K "_law_has_all" s237
 a42:FX K "_law_last" s238
 a43:FX K "_law_good" s239
 a44:FX K "law" sE
 z0:W.nsIn K mainGlobals "len"=some none
 z1:W.nsIn K mainGlobals "int"=some none
 z2:W.nsIn K mainGlobals "list"=some none
 z3:W.nsIn K mainGlobals "tuple"=some none
 z4:W.nsIn K mainGlobals "all"=some none
 z5:W.nsIn K mainGlobals "min"=some none
 z6:W.nsIn K mainGlobals "max"=some none
 z7:W.nsIn K mainGlobals "isinstance"=some none
 z8:W.nsIn K mainGlobals "str"=some none
 z9:W.nsIn K mainGlobals "range"=some none
 z10:W.nsIn K mainGlobals "enumerate"=some none
 z11:W.nsIn K mainGlobals "sorted"=some none
 z12:W.nsIn K mainGlobals "set"=some none
 z13:W.nsIn K mainGlobals "sum"=some none
 z14:W.nsIn K mainGlobals "dict"=some none
 v0:∃tk,W.nsIn K mainGlobals "CELL"=some (some (.str "x" tk))
 v1:∃tk,W.nsIn K mainGlobals "HOLE"=some (some (.str "." tk))
 v2:∃tk,W.nsIn K mainGlobals "GREATEST_SIDE"=some (some (.int 8 tk))
 cx:∃g0 gi gT cd0 iq ix iz ir is_ it iu iw iy im iv in_,CX K g0 gi gT cd0 iq ix iz ir is_ it iu iw iy im iv in_
end Law
section
open PySem PySem.W PyProof.Rows
def LH.vw:Program:={PySem.Challenge.pw_unstruck_k81_whole_report with main:={PySem.Challenge.pw_unstruck_k81_whole_report.main with body:=((PySem.Challenge.pw_unstruck_k81_whole_report.main.body.drop 1).take 8)++((PySem.Challenge.pw_unstruck_k81_whole_report.main.body.drop 10).take 3)++((PySem.Challenge.pw_unstruck_k81_whole_report.main.body.drop 14).take 3)++((PySem.Challenge.pw_unstruck_k81_whole_report.main.body.drop 18).take 4)++((PySem.Challenge.pw_unstruck_k81_whole_report.main.body.drop 23).take 2)++((PySem.Challenge.pw_unstruck_k81_whole_report.main.body.drop 26).take 5)++((PySem.Challenge.pw_unstruck_k81_whole_report.main.body.drop 32).take 4)++((PySem.Challenge.pw_unstruck_k81_whole_report.main.body.drop 37).take 1)++((PySem.Challenge.pw_unstruck_k81_whole_report.main.body.drop 39).take 4)++((PySem.Challenge.pw_unstruck_k81_whole_report.main.body.drop 44).take 17)}}
open H
def LH.two{A B C:Type}{o:Option A}{f:A->B}{g:A->C}{a:B}{b:C}(h:o.map f=some a)(k:o.map g=some b):o.map (λs=>(f s,g s))=some (a,b):=by
 cases o with
 |none=>ext h|some x=>ext h;ext k;rfl
abbrev LH.xt(s:Shared):Bool:=xlAt LH.vw [] s&&recOk [] s
open J
def LH.h1(w:World):(openEnds treeTable PySem.Challenge.pw_unstruck_k81_whole_report w 9999).map (fun s=>openSeen LH.vw ["NoStair"] (importedModules PySem.Challenge.pw_unstruck_k81_whole_report.main.body) LH.xt true s)=some (openGood LH.vw ["NoStair"]):=by kernel_rfl
set_option maxRecDepth 100000 in
set_option maxHeartbeats 0 in
theorem LH.ws:OpenLaw.wellSaid PySem.Challenge.rw_unstruck_k81_whole_report=true:=(congrFun Fast.te9446332074065402090 _).trans (by kernel_rfl)
local macro_rules | `(tactic| o_head $H) => do
 let hw := Lean.mkIdent `hw
 let hc := Lean.mkIdent `hc
 `(tactic| (refine holds_open (q := LH.vw) (loose := ["NoStair"]) (Xt := LH.xt) (XP := XL LH.vw []) (Yf := Hook.obs $H) (Ya := Hook.val $H) (YP := Hook.says $H) (N := 9999) (fun w => LH.two (LH.h1 w) (by kernel_rfl)) (Hook.of $H) (Hook.keeps $H) (fun s e => xl_of s (Bool.and_eq_true_iff.mp e).1) XL.keeps rfl rfl rfl (fun s e => recFacts_of (Bool.and_eq_true_iff.mp e).2) rfl (by first | assumption | decide +kernel) (by decide +kernel) ⟨rfl, rfl, rfl, rfl, rfl, by decide +kernel⟩ ?$hw ?$hc))
set_option maxRecDepth 100000 in
set_option maxHeartbeats 0 in
def LH.head(h:∀(K:Params->Frag) (YP:World->Heap->Prop) (d:DefRec),d.name="law"->d.params.defaults=[]->(∀(w:World) (h:Heap),YP w h->(K w.params).In h)->(∀w:World,Law.Mj (K w.params))->WalkO LH.vw ["NoStair"] (XL LH.vw []) YP PySem.Challenge.rw_unstruck_k81_whole_report.row.toRowW d [] fun f vs=>PySem.call f vs):PySem.Challenge.rw_unstruck_k81_whole_report.Holds:=by
 w_on;show holds_law LH.ws fun said=> ?_;k_head;(case hw=>w_witness2)
 k_fill
 show h _ _ _ rfl rfl (λw h Y=>W.kIn_of Y) λw=> ?_;constructor;all_goals first|show Y_ ⟨by k_is,by k_is,by k_is,by k_is⟩|k_is|show⟨_,by k_is⟩|show⟨_,_,_,_,_,_,_,_,_,_,_,_,_,_,_,_,by k_is,by k_is,by k_is,by k_is,by k_is,by k_is,by k_is,by k_is,by k_is,by k_is,by k_is,by k_is,by k_is,by k_is,by k_is,by k_is,by k_is,by k_is,by k_is,by k_is,by k_is,04⟩
end
namespace L2
open PySem PySem.Spec PyProof.Rows
abbrev af:=Sum Int Str
def og:af->Value->Bool
 | .inl k,v=>Value.isInt k v| .inr x,v=>Value.isStrOf x v
def keyH(w:World):af->Int
 | .inl k=>hashInt k| .inr x=>hashStr w x
open H
theorem bM:∀{k:af}{v:Value},og k v=true->(∃i t,k=Sum.inl i/\v=Value.int i t)\/(∃x t,k=Sum.inr x/\v=Value.str x t)
 | .inl i,v,h=>by let⟨t,e⟩:=Value.isInt_shape h;show .inl (Y_22 i t rfl e)
 | .inr x,v,h=>by let⟨t,e⟩:=Value.isStrOf_shape h;show .inr (Y_22 x t rfl e)
def zF(i:Int)(t:Tok):og (.inl i) (.int i t)=true:=by simp[og,Value.isInt]
def zE(x:Str)(t:Tok):og (.inr x) (.str x t)=true:=by simp[og,Value.isStrOf]
def Ik(a b:Int):decide ((Sum.inl a:af)=Sum.inl b)=(a==b):=by
 by_cases e:a=b;subst e;simp
 ·let h:¬(Sum.inl a:af)=Sum.inl b:=λq=>e (Sum.inl.inj q)
  rw[Nu h];show(Pe.mpr e).symm
def Ih(a b:Str):decide ((Sum.inr a:af)=Sum.inr b)=decide (a=b):=by
 by_cases e:a=b;simp
 ·let h:¬(Sum.inr a:af)=Sum.inr b:=λq=>e (Sum.inr.inj q)
  rw[Nu h,Nu e]
theorem Ij(a:Int)(b:Str):decide ((Sum.inl a:af)=Sum.inr b)=false:=Nu (λq=>nomatch q)
theorem Ii(a:Str)(b:Int):decide ((Sum.inr a:af)=Sum.inl b)=false:=Nu (λq=>nomatch q)
def aZ(c:Program)(w:World):PySem.KeyKind c w af where
 is:=og
 hash:=keyH w
 inj:=λv a b ha hb=>by
  rcases bM ha with⟨i,t,rfl,rfl⟩|⟨x,t,rfl,rfl⟩
  ·rcases bM hb with⟨j,u,rfl,e⟩|⟨y,u,rfl,e⟩
   ·injection e with e1 _;rw[e1]
   ·show nomatch e
  ·rcases bM hb with⟨j,u,rfl,e⟩|⟨y,u,rfl,e⟩
   ·show nomatch e
   ·injection e with e1 _;rw[e1]
 byValue:=λk v h=>by
  rcases bM h with⟨i,t,rfl,rfl⟩|⟨x,t,rfl,rfl⟩<;>rfl
 pyHash:=λhv h=>by
  rcases bM hv with⟨i,t,rfl,rfl⟩|⟨x,t,rfl,rfl⟩
  ·show wpAny_pyHash_int h
  ·show wpAny_pyHash_str h
 eqBool:=λhu hv h=>by
  rcases bM hu with⟨i,t,rfl,rfl⟩|⟨x,t,rfl,rfl⟩
  ·rcases bM hv with⟨j,u,rfl,rfl⟩|⟨y,u,rfl,rfl⟩
   ·rw[Ik]at h;show wpAny_eqBool_int h
   ·rw[Ij]at h;show SeqAt.EqAt.int_str i t y u _ _ _ _ h
  ·rcases bM hv with⟨j,u,rfl,rfl⟩|⟨y,u,rfl,rfl⟩
   ·rw[Ii]at h;show SeqAt.EqAt.str_int x t j u _ _ _ _ h
   ·rw[Ih]at h;show wpAny_eqBool_str h
 «strs»:=λk x t v h=>by
  rcases bM h with⟨i,u,rfl,e⟩|⟨y,u,rfl,e⟩
  ·show nomatch e
  ·injection e with e1 _
   subst e1;ext v<;>rfl
theorem tP(a:Program)(w:World)(i:Int)(t:Tok):(aZ a w).is (.inl i) (.int i t)=true:=zF i t
theorem tO(a:Program)(w:World)(x:Str)(t:Tok):(aZ a w).is (.inr x) (.str x t)=true:=zE x t
inductive V where
 | non|bl (b:Bool)|int (i:Int)|str (x:Str)|byt (b:Array UInt8)|flt (b:UInt64)|ref (a:Addr)|ty (n:String)
 deriving DecidableEq
def RelV:V->Value->Prop
 | .non,u=>u=Value.none| .bl b,u=>u=Value.bool b| .int i,u=>∃t,u=Value.int i t| .str x,u=>∃t,u=Value.str x t| .byt b,u=>∃t,u=Value.bytes b t| .flt b,u=>∃t,u=Value.float b t| .ref a,u=>u=Value.ref a| .ty n,u=>u=Value.type n
abbrev aQ:List V->List Value->Prop:=Paired RelV
theorem aQ.length{us:List Value}(r:aQ a us):a.length=us.length:=Paired.length r
theorem aQ.get:∀{a:List V}{us:List Value}{i:Nat}{x:V},aQ a us->a[i]? =some x->∃u,us[i]? =some u/\RelV x u
 |_,_,_,_,.nil,e=>by simp at e|_,_,0,_,.cons r _,e=>by simp at e;subst e;exists _,rfl,r|_,_,i+1,x,.cons _ t,e=>by let⟨u,b,c⟩:=aQ.get t (by simpa using e);exists u,by simpa using b,c
theorem aQ.set{x:V}{u:Value}(r:RelV x u):∀{a:List V}{us:List Value}(i:Nat),aQ a us->aQ (a.set i x) (us.set i u)
 |_,_,_,.nil=>.nil|_,_,0,.cons _ t=>.cons r t|_,_,i+1,.cons q t=>.cons q (aQ.set r i t)
def aQ.append{us:List Value}(h:aQ a us)(k:aQ b c):aQ (a++b) (us++c):=by
 induction h with
 |nil=>show k|cons r t d=>show .cons r d
theorem aQ.take:∀{a:List V}{us:List Value}(n:Nat),aQ a us->aQ (a.take n) (us.take n)
 |_,_,0,_=>.nil|_,_,_+1,.nil=>.nil|_,_,n+1,.cons r t=>.cons r (aQ.take n t)
theorem aQ.drop:∀{a:List V}{us:List Value}(n:Nat),aQ a us->aQ (a.drop n) (us.drop n)
 |_,_,0,r=>r|_,_,_+1,.nil=>.nil|_,_,n+1,.cons _ t=>aQ.drop n t
def il:Option V->Option Value->Prop
 |some v,some u=>RelV v u|none,none=>True|_,_=>False
def KV{a:Type}:List (a×V)->List (a×Value)->Prop:=Paired λ(p:a×V)(q:a×Value)=>p.1=q.1/\RelV p.2 q.2
def kV:af->V
 | .inl i=>.int i| .inr x=>.str x
inductive HO where
 | lst (xs:List V)
 | tup (xs:List V)
 | dK (kvs:List (af×V))|dT (kvs:List (List af×V))
 | set (S:Int->Bool) (n:Nat)
 | ins (C dx:Addr) (fs:List (Str×V))
 | own (x:Addr)
 | xd (fs:List (Str×V))
 | met (f x:Addr)
 | rng (lo hi:Int)
 | frz (o:Obj) (u:HO)
 | tbl (ps:Array Value)
 | ext (φ:Heap->Prop)
abbrev Hp:=Addr->Option HO
def upd(H:Hp)(a:Addr)(o:HO):Hp:=λb=>if b=a then some o else H b
def aB{o:HO}:upd H a o a=some o:=by unfold upd;rw[M9 rfl]
def aA{o:HO}(h:b≠a):upd H a o b=H b:=by unfold upd;rw[NJ h]
def wR{o:HO}:upd (upd H a o) a u=upd H a u:=by funext b;unfold upd;split<;>rfl
def LX{H:Hp}{o:HO}(h:H a=some o)(c :H b=some u)(d:o≠u):a≠b:=by intro e;subst e;rw[h]at c;show d (Nf c)
def aE{H:Hp}{o:HO}(h:H a=some o)(c :H b=none):a≠b:=by intro e;subst e;rw[h]at c;ext c
def kq(h:Heap)(a:Addr)(b:Array Value):Prop:=∃o,h.get? a=some o/\o.cls=.type "tuple"/\∃n,o.data=.seq b n/\o.dict=none
theorem kq.tup{h:Heap}{a:Addr}{b:Array Value}(x:kq h a b):IsTup h a b:=let⟨o,e,c,n,d,_⟩:=x;⟨o,e,c,n,d⟩
theorem kq.new(h:Heap)(a:Array Value):kq (h.push {cls:=.type "tuple",data:=.seq a}) h.objs.size a:=⟨_,NR _ rfl,rfl,_,rfl,rfl⟩
section
variable(P:Program)(w:World)
def aw(H:Hp)(h:Heap)(a:Addr):HO->Prop
 | .lst d=>d.length<=sizeLine/\∃(c:List Value)(n:Nat),aQ d c/\h.get? a=some {cls:=.type "list",data:=.seq c.toArray n}| .tup d=>d.length<=sizeLine/\∃c:List Value,aQ d c/\kq h a c.toArray| .dK b=>b.length<=sizeLine/\(a==sysModules)=false/\∃m,KV b m/\h.DictOf (aZ P w) a m| .dT b=>b.length<=sizeLine/\(a==sysModules)=false/\∃d:List (List af×Addr×Value),Paired (λ(p:List af×V) (q:List af×Addr×Value)=>p.1=q.1/\H q.2.1=some (.tup (p.1.map kV))/\RelV p.2 q.2.2) b d /\ ∃o l z,h.get? a=some o/\o.ExactDict/\o.data=.dict l z/\l.toList=d.map (entryOfKey (tupleKind (aZ P w)))/\(d.map (·.1)).Nodup| .set S n=>h.SetOf (intKind P w) a S n| .ins C i g=>H i=some (.own a)/\g.length<=1000/\i≠a/\h.get? a=some (W.instObj C i) /\ ∃e,h.Ns1 i e/\(∀f,il (g.lookup f) (e f))/\PySem.Within e (g.map (·.1))| .own _=>∃o,h.get? a=some o| .xd g=>∃e,h.Ns1 a e/\∀f,il (g.lookup f) (e f)| .rng y D=>∃t u v,h.get? a=some {cls:=.type "range",data:=.fields #[.int y t,.int D u,.int 1 v]}| .frz o u=>h.get? a=some o/\aw H h a u| .tbl A=>h.get? a=some {cls:=.none,data:=.fields A}| .met f x=>h.get? a=some (W.methodObj (.ref f) (.ref x))| .ext j=>j h/\(∃o,h.get? a=some o)/\∀r s:Heap,j r->(∀o,r.get? a=some o->s.get? a=some o)->j s
def eO(H:Hp)(h:Heap):Prop:=∀a o,H a=some o->aw P w H h a o
end
section
variable{P:Program}{w:World}{H H' :Hp}{h h' :Heap}{a:Addr}{o:HO}
def aw.lt(x:aw P w H h a o):a<h.objs.size:=by
 cases o with
 |lst c=>show X_02 (λ_=>X_22 λ_ _ _ e=> ?_) x;show NQ e
 |tup c=>show X_02 (λ_=>X_12 λ_ _ p=> ?_) x;show p.tup.lt
 |dK b=>show X_03 (λ_ _=>X_12 λ_ _=>X_32 λo _ _ e _=> ?_) x;show NQ e
 |dT b=>show X_03 (λ_ _=>X_12 λ_ _=>X_32 λo _ _ e _=> ?_) x;show NQ e
 |set S n=>let⟨o,_,_,_,e,_⟩:=x;show NQ e
 |ins C g d=>let⟨_,_,_,e,_⟩:=x;show NQ e
 |own y=>let⟨_,e⟩:=x;show NQ e
 |xd d=>obtain⟨_,⟨_,_,_,e,_⟩,_⟩:=x;show NQ e
 |rng j m=>let⟨_,_,_,e⟩:=x;show NQ e
 |frz q u=>let⟨e,_⟩:=x;show NQ e
 |tbl l=>show NQ (show h.get? a=some _ from x)|met f y=>show NQ (show h.get? a=some _ from x)|ext i=>obtain⟨_,⟨_,e⟩,_⟩:=x;show NQ e
def Paired.mapP{e g:Type}{F G:e->g->Prop}{c:List e}{d:List g}(h:Paired F c d)(f:∀a b,F a b->G a b):Paired G c d:=by
 induction h with
 |nil=>show .nil|cons r t i=>show .cons (f _ _ r) i
def aw.stay(x:aw P w H h a o)(k:∀b u,(b=a\/H b=some (.own a))->h.get? b=some u->h'.get? b=some u)
  (M:∀b,H b=some (.own a)->H' b=some (.own a)) (L:∀b m,H b=some (.tup m)->H' b=some (.tup m)):aw P w H' h' a o:=by
 induction o with
 |lst m=>show X_02 (λz=>X_22 λl n r e=> ?_) x;show⟨z,l,n,r,k _ _ (.inl rfl) e⟩
 |tup m=>show X_02 (λz=>X_12 λl r=>X_12 λg e c=> ?_) x;show⟨z,l,r,g,k _ _ (.inl rfl) e,c⟩
 |dK s=>show X_03 (λz y=>X_12 λK r=>X_32 λg i j e c=> ?_) x;show⟨z,y,K,r,g,i,j,k _ _ (.inl rfl) e,c⟩
 |dT s =>show X_03 (λz y=>X_12 λm r=>X_32 λg i j e c=> ?_) x;show⟨z,y,m,Paired.mapP r λp q z=>⟨z.1,L _ _ z.2.1,z.2.2⟩,g,i,j,k _ _ (.inl rfl) e,c⟩
 |set S n=>let⟨g,i,j,t,e,c⟩:=x;show⟨g,i,j,t,k _ _ (.inl rfl) e,c⟩
 |ins C R O =>obtain⟨d,z,N,e,D,⟨A,i,j,Q,c⟩,r⟩:=x;show⟨M _ d,z,N,k _ _ (.inl rfl) e,D,⟨A,i,j,k _ _ (.inr d) Q,c⟩,r⟩
 |own y=>let⟨g,e⟩:=x;show⟨g,k _ _ (.inl rfl) e⟩
 |xd O=>obtain⟨D,⟨A,i,j,e,c⟩,r⟩:=x;exists D,⟨A,i,j,k _ _ (.inl rfl) e,c⟩,r
 |rng U X=>let⟨t,u,v,e⟩:=x;exists t,u,v,k _ _ (.inl rfl) e
 |frz g u J=>let⟨e,q⟩:=x;show⟨k _ _ (.inl rfl) e,J q⟩
 |tbl E =>let e:=x;show k a _ (.inl rfl) e
 |met f y =>let e:=x;show k a _ (.inl rfl) e
 |ext T=>obtain⟨p,⟨o,e⟩,I⟩:=x;show⟨I _ _ p λo q=>k _ _ (.inl rfl) q,⟨o,k _ _ (.inl rfl) e⟩,I⟩
theorem eO.lt(x:eO P w H h)(e:H a=some o):a<h.objs.size:=(x a o e).lt
def eO.fresh(x:eO P w H h)(e:h.objs.size<=a):H a=none:=by
 cases q:H a with
 |none=>rfl|some u=>show absurd (Nq (x.lt q) e) (On _)
theorem eO.kept(x:eO P w H h)(k:∀b u,h.get? b=some u->h'.get? b=some u):eO P w H h' :=λa o e =>
 (x a o e).stay (λb u _ q=>k b u q) (λ_ q=>q) λ_ _ q=>q
theorem eO.laid(x:eO P w H h)(k:∀b u,h.get? b=some u->h'.get? b=some u)(i:h.objs.size<=a)(d:aw P w (upd H a o) h' a o):eO P w (upd H a o) h' :=λb u e=>by
 let f:=x.fresh i
 by_cases g:b=a;subst g;rw[aB]at e;ext e;show d
 ·rw[aA g]at e
  show(x b u e).stay (λc v _ q=>k c v q) (λc q=>by rwa[aA (aE q f)]) λc xs q=>by rwa[aA (aE q f)]
end
def Rd(H:Hp)(a:Addr)(u:HO):Prop:=H a=some u\/∃o,H a=some (.frz o u)
def Rd.ok{P:Program}(r:Rd H a u)(x:eO P w H h):aw P w H h a u:=by
 rcases r with r|⟨o,r⟩
 ·show x a u r
 ·let⟨_,q⟩:=x a _ r
  show q
def KU:Option HO->Prop
 |some (.lst _)=>True|some (.dK _)=>True|some (.dT _)=>True|some (.set _ _)=>True|some (.ins _ _ _)=>True|some (.ext _)=>True|_=>False
section
variable{P:Program}{w:World}{H:Hp}{h h' :Heap}{x e:Addr}{o' :HO}
theorem eO.write(A:eO P w H h)(l:KU (H x))(o:e=x\/H e=some (.own x))(k:∀b u,b≠e->h.get? b=some u->h'.get? b=some u)(m:∃u,h'.get? e=some u)
  (n:aw P w (upd H x o') h' x o'):eO P w (upd H x o') h' :=λb u q=>by
 let d:∀c y,H c=some (.own y)->c≠x:=λc y r z=>by subst z;rwa[r]at l
 let f:∀c j,H c=some (.tup j)->c≠x:=λc j r z=>by subst z;rwa[r]at l
 by_cases i:b=x;subst i;rw[aB]at q;ext q;show n
 ·rw[aA i]at q
  by_cases a:b=e
  ·let p :H b=some (.own x):=by
    rcases o with z|z
    ·show absurd (a.trans z) i
    ·rwa[a]
   rw[q]at p;ext p;let⟨v,s⟩:=m;show⟨v,by rwa[a]⟩
  ·show(A b u q).stay (λc v g r=>k c v ?_ r) (λc r=>by rwa[aA (d c b r)]) λc j r=>by rwa[aA (f c j r)]
   rcases g with rfl|g
   ·show a
   ·rintro rfl
    rcases o with z|z
    ·show d c b g z
    ·rw[g]at z;ext z;show i rfl
end
structure Un(fs ex:List Addr)(H H' :Hp)(h h' :Heap):Prop where
 keep:∀b o,h.get? b=some o->H b=none->b∉fs->b∉ex->h'.get? b=some o
 slot:∀b o,h.get? b=some o->H b=none->b∈fs->b∉ex->∃sl,h'.get? b=some {o with slots:=sl}
 free:∀b o,h.get? b=some o->H b=none->b∉ex->H' b=none
 there:∀b o,h.get? b=some o->b∉ex->∃o',h'.get? b=some o'
 tups:∀b xs,H b=some (.tup xs)->H' b=some (.tup xs)
 frzs:∀b o u,H b=some (.frz o u)->H' b=some (.frz o u)
 tbls:∀b ps,H b=some (.tbl ps)->∃more,H' b=some (.tbl (ps++more))
section
variable{fs fs' ex ex' :List Addr}{H H1 H2:Hp}{h h1 h2 h' :Heap}{a x e:Addr}{o:HO}
def Un.any(u:Un fs ex H H1 h h1)(q:h.get? b=some c)(n:H b=none)(f:b∉ex):∃g,h1.get? b=some {c with slots:=g}:=by by_cases d:b∈fs;show u.slot b c q n d f;show⟨c.slots,u.keep b c q n d f⟩
theorem Un.kept(k:∀b u,h.get? b=some u->h'.get? b=some u):Un fs ex H H h h' := ⟨λb ob q _ _ _=>k b ob q,λb ob q _ _ _=>⟨ob.slots,k b ob q⟩,λ_ _ _ n _=>n,λb ob q _=>⟨ob,k b ob q⟩,λ_ _ q=>q,λ_ _ _ q=>q,λ_ ps q=>⟨#[],by rw[q];simp⟩⟩
theorem Un.refl:Un fs ex H H h h:=Un.kept λ_ _ q=>q
theorem Un.laid(k:∀b u,h.get? b=some u->h'.get? b=some u)(d:h.objs.size<=a)(c:H a=none):Un fs ex H (upd H a o) h h' where
 keep:=λb u q _ _ _=>k b u q
 slot:=λb u q _ _ _=>⟨u.slots,k b u q⟩
 free:=λb u q n _=>by rwa[aA (Na (Nq (NQ q) d))]
 there:=λb u q _=>⟨u,k b u q⟩
 tups:=λb xs q=>by rwa[aA (aE q c)]
 frzs:=λb u xs q=>by rwa[aA (aE q c)]
 tbls:=λb ps q=>⟨#[],by rw[aA (aE q c),q];simp⟩
def Un.write(d:KU (H x))(l:e=x\/H e=some (.own x))(k:∀b u,b≠e->h.get? b=some u->h'.get? b=some u)(f:∃u,h'.get? e=some u):Un fs ex H (upd H x o) h h' :=by
 let j:∀b,H b=none->b≠x:=λb n z=>by subst z;rwa[n]at d
 let i:∀b,H b=none->b≠e:=λb n z=>by
  subst z
  rcases l with r|r
  ·show j b n r
  ·rw[n]at r;ext r
 let g:∀b u,H b=some u->¬KU (some u)->b≠x:=λb u q nm z=>by subst z;rw[q]at d;show nm d
 show⟨λb u q n _ _=>k b u (i b n) q,λb u q n _ _=>⟨u.slots,k b u (i b n) q⟩,λb u q n _=>by rwa[aA (j b n)],λb u q _=> ?_,λb xs q=>by rwa[aA (g b _ q λz=>z)],λb u xs q=>by rwa[aA (g b _ q λz=>z)],λb ps q=>⟨#[],by rw[aA (g b _ q λz=>z),q];simp⟩⟩
 by_cases c:b=e;subst c;show f;show⟨u,k b u c q⟩
end
def trk(h:Heap)(H:Hp):List Addr:=(List.range h.objs.size).filter λa=>(H a).isSome
def qP(h:Heap)(H:Hp):Heap:=W.hideAll h (trk h H)
theorem zJ(h:Heap)(H:Hp):(qP h H).objs.size=h.objs.size:=W.hideAll_size _ _
theorem CU{o:Obj}(e:h.get? b=some o)(n:H b=none):(qP h H).get? b=some o := W.hideAll_get _ e λhm=>by let q:=(Nv.mp hm).2;rw[n]at q;simp at q
def Eh{o:Obj}(e:(qP h H).get? b=some o):h.get? b=some o/\H b=none:=by
 let a :=W.of_hideAll (trk h H) e;show⟨a,?_⟩;cases q:H b with
 |none=>rfl|some x =>let c:b∈trk h H:=Nv.mpr ⟨Nm.mpr (NQ a),by simp[q]⟩;let z:(qP h H).get? b=none:=W.hideAll_none (trk h H) c;rw[z]at e;ext e
def F8(g h:Heap)(L:Addr):List (Addr×Obj):=(List.range h.objs.size).filterMap λa=>if a=L\/(g.get? a).isSome=true then none else(h.get? a).map λo=>(a,o)
def aJ(g h:Heap)(L d:Addr):List (Addr×Obj):=(F8 g h L).filter λp=>decide (p.1≠d)
structure Mod(K:W.Frag)(mg:Str->Option Value)(base:Heap):Prop where
 kin:K.In base
 glob:base.Ns mainGlobals mg
 blt:∃mb,base.Ns builtinsNs mb/\∀x:Str,x≠"__name__"->mb x=bootBuiltins x
 nolimit:base.NoLimit
structure Cx where
 prog:Program
 w:World
 K:W.Frag
 mg:Str->Option Value
 base:Heap
 A:Around
 N:List Str
 s₀:Shared
 H₀:Hp
 env:Env
 outer:List Env
 stack:List Env
 ex:List Addr
 fn:Str->Bool
 calm:Bool
 pn:List (Addr×Obj)
 xe:Value->Shared->Prop
def uo(l:List Env):List Addr:=l.filterMap (·.frame)
abbrev Cx.fs(X:Cx):List Addr:=uo X.outer
def KS(a:Scope)(x:Str):Prop:=a.names.lookup x=some .local\/a.names.lookup x=some .cell\/a.names.lookup x=some .free
def Loc(a:Scope)(x:Str):Prop:=a.names.lookup x=some .local\/a.names.lookup x=some .cell
def Look(a:Env)(h:Heap)(m:Str->Option Value)(x:Str)(u:Value):Prop :=
 (a.kindOf x=some .local/\m x=some u)\/((a.kindOf x=some .cell\/a.kindOf x=some .free)/\∃c,a.cells.lookup x=some c/\h.IsCell c (some u))
structure Cx.Ok(X:Cx):Prop where
 mod:Mod X.K X.mg X.base
 kind:X.env.scope.kind=.function
 glob:X.env.globals=mainGlobals
 blt:X.env.builtins=builtinsNs
 above:X.s₀.heap.objs.size<=X.env.locals
 inj:∀x y c,X.env.cells.lookup x=some c->X.env.cells.lookup y=some c->x=y
 has:∀x,(X.env.kindOf x=some .cell\/X.env.kindOf x=some .free)->∃c,X.env.cells.lookup x=some c
 cab:∀x c,X.fn x=true->X.env.cells.lookup x=some c->X.s₀.heap.objs.size<=c
 hd:X.calm=true->X.A.handled=none
 frames:X.A.frames=some X.stack
 stk:X.stack=X.outer\/(X.stack=X.env::X.outer/\X.env.frame=some X.env.locals)
 exf:∀b∈X.ex,b≠X.env.locals/\∀x c,X.env.cells.lookup x=some c->c≠b
 bs:∀b o,X.base.get? b=some o->X.s₀.heap.get? b=some o/\X.H₀ b=none
 bsz:X.base.objs.size<=X.s₀.heap.objs.size
 noex:∀b o,X.base.get? b=some o->b∉X.ex
 exfs:∀b∈X.ex,b∉X.fs
 funs:X.s₀.heap.FunFrames X.base X.outer
 frf:∀b∈X.fs,X.H₀ b=none
structure Inv(X:Cx)(pins:List (Addr×Obj))(σ:List (Option V))(H:Hp)(s:Shared):Prop where
 ok:X.Ok
 os:s.os=X.s₀.os
 bare:AllBare s.gens
 base:Un X.fs X.ex X.H₀ H X.s₀.heap s.heap
 loc:∃m,s.heap.Ns X.env.locals m/\∀(i:Nat)(x:Str)(v:V),X.N[i]? =some x->σ[i]? =some (some v)->KS X.env.scope x->∃u,RelV v u/\Look X.env s.heap m x u
 cell:∀x c,X.env.cells.lookup x=some c->∃v,s.heap.IsCell c v
 free:H X.env.locals=none
 freeC:∀x c,X.env.cells.lookup x=some c->H c=none
 pin:∀p∈X.pn++pins,s.heap.get? p.1=some p.2/\H p.1=none/\p.1≠X.env.locals/\p.1∉X.fs/\∀v,p.2.data≠.cell v
 hok:eO X.prog X.w H s.heap
 len:σ.length=X.N.length
section
variable{X:Cx}{pins:List (Addr×Obj)}{σ:List (Option V)}{H H' :Hp}{s:Shared}{h' :Heap}
theorem Cx.Ok.nofr(a:X.Ok){o:Obj}(e:X.base.get? b=some o):b∉X.fs:=λhb=>by have:=(a.funs.mem hb).1;rw[e]at this;ext this
theorem Inv.bs(I:Inv X pins σ H s):∀b o,X.base.get? b=some o->s.heap.get? b=some o/\H b=none:=λb o e =>
 ⟨I.base.keep b o (I.ok.bs b o e).1 (I.ok.bs b o e).2 (I.ok.nofr e) (I.ok.noex b o e),I.base.free b o (I.ok.bs b o e).1 (I.ok.bs b o e).2 (I.ok.noex b o e)⟩
theorem Inv.bk(I:Inv X pins σ H s):∀b o,X.base.get? b=some o->s.heap.get? b=some o:=λb o e=>(I.bs b o e).1
theorem Inv.mod(I:Inv X pins σ H s):Mod X.K X.mg X.base:=I.ok.mod
theorem Inv.kIn(I:Inv X pins σ H s):X.K.In s.heap:=I.ok.mod.kin.keeps I.bk
theorem Inv.lt(I:Inv X pins σ H s):X.env.locals<s.heap.objs.size:=let⟨_,hn,_⟩:=I.loc;hn.lt
theorem Inv.sz(I:Inv X pins σ H s):X.s₀.heap.objs.size<=s.heap.objs.size:=Nd I.ok.above (Ou I.lt)
theorem Inv.nofs(I:Inv X pins σ H s)(h:s.heap.objs.size<=a):a∉X.fs:=λhb=>by show X_02 (λ_=>X_12 λo b _=> ?_) (I.ok.funs.mem hb);show absurd (Nq (NQ b) (Nd I.sz h)) (On _)
theorem Inv.cne(I:Inv X pins σ H s):∀x c,X.env.cells.lookup x=some c->c≠X.env.locals:=λx c e z=>by let⟨v,o,f,d⟩:=I.cell x c e;obtain⟨m,⟨h,i,g,b,a,_⟩,_⟩:=I.loc;rw[z,b]at f;ext f;rw[a]at d;ext d
def Inv.funs(I:Inv X pins σ H s):s.heap.FunFrames X.base X.outer:=by
 let c:∀l,(∀b∈uo l,b∈X.fs)->X.s₀.heap.FunFrames X.base l->s.heap.FunFrames X.base l:=by
  intro l
  induction l with
  |nil=>intro _ _;trivial|cons n r i =>intro f g;obtain⟨j,⟨L,o,d,m,p,h⟩,q⟩:=g;let a:=f L (by unfold uo;rw[Ph,d];show M7);let⟨u,e⟩:=I.base.slot L o p (I.ok.frf L a) a λz=>I.ok.exfs L z a;show⟨j,Y_24 L _ d m e h,i (λb hb=>f b (by unfold uo;rw[Ph,d];show M4 _ hb)) q⟩
 show c X.outer (λ_ hb=>hb) I.ok.funs
def Inv.stack(I:Inv X pins σ H s):s.heap.FunFrames X.base X.stack:=by
 rcases I.ok.stk with e|⟨e,b⟩
 ·rw[e];show I.funs
 ·rw[e]
  let⟨m,a,_⟩:=I.loc;show .cons (by rw[I.ok.kind];decide) b a ?_ I.funs;show QN (Nd I.ok.bsz I.ok.above)
theorem Inv.stkSub(I:Inv X pins σ H s):∀b∈uo X.stack,b∈X.env.locals::X.fs:=λb hb=>by
 rcases I.ok.stk with e|⟨e,a⟩
 ·rw[e]at hb;show M4 _ hb
 ·rw[e]at hb
  unfold uo at hb;rwa[Ph,a]at hb
theorem Inv.stkFree(I:Inv X pins σ H s):∀b∈uo X.stack,H b=none:=λb hb=>by
 rcases NH.mp (I.stkSub b hb)with e|hb
 ·rw[e];show I.free
 ·show X_02 (λ_=>X_12 λo a _=> ?_) (I.ok.funs.mem hb)
  show I.base.free b o a (I.ok.frf b hb) λz=>I.ok.exfs b z hb
def Inv.step{g':Array GenState}{d':Drawn}{ch:List Addr}(I:Inv X pins σ H s)
  (h:∀b∈ch,(b∈X.ex\/X.s₀.heap.objs.size<=b)/\b≠X.env.locals/\(∀x c,X.env.cells.lookup x=some c->c≠b)/\∀p∈X.pn++pins,p.1≠b)
  (j:∀b o,b≠X.env.locals->b∉X.fs->b∉ch->s.heap.get? b=some o->H b=none->h'.get? b=some o)
  (D:∀b o,b≠X.env.locals->b∈X.fs->b∉ch->s.heap.get? b=some o->H b=none->∃Y,h'.get? b=some {o with slots:=Y}) (a:∀b o,b∉ch->s.heap.get? b=some o->H b=none->H' b=none)
  (E:∀b o,b∉ch->s.heap.get? b=some o->∃K,h'.get? b=some K)
  (N:∀b C,H b=some (.tup C)->H' b=some (.tup C)) (O:∀b o u,H b=some (.frz o u)->H' b=some (.frz o u)) (R:∀b S,H b=some (.tbl S)->∃M,H' b=some (.tbl (S++M)))
  (ns:∀m,s.heap.Ns X.env.locals m->h'.Ns X.env.locals m) (U:eO X.prog X.w H' h') (hg:AllBare g') :
  Inv X pins σ H' {s with heap:=h',gens:=g',drawn:=d',toks:=t'}:=by
 let L:∀b o,X.s₀.heap.get? b=some o->b≠X.env.locals:=λb o e=>Na (Nq (NQ e) I.ok.above);let y:∀b o,X.s₀.heap.get? b=some o->b∉X.ex->b∉ch:=λb o e hx hb=>by
  rcases(h b hb).1 with z|z
  ·show hx z
  ·show absurd (Nq (NQ e) z) (On _)
 let g:∀x c,X.env.cells.lookup x=some c->∀v,s.heap.IsCell c v->h'.IsCell c v:=λx c e v ⟨o,J,T⟩=>by
  let f:=λz=>(h c z).2.2.1 x c e rfl
  by_cases Z:c∈X.fs
  ·let⟨Y,q⟩:=D c o (I.cne x c e) Z f J (I.freeC x c e)
   exists _,q,T
  ·exists o,j c o (I.cne x c e) Z f J (I.freeC x c e),T
 show⟨I.ok,I.os,hg,⟨λb o e n hb hx=> ?_,λb o e n hb hx=> ?_,λb o e n hx=> ?_,λb o e hx=> ?_,λb C e=>N b C (I.base.tups b C e),λb o C e=>O b o C (I.base.frzs b o C e),λb S e=> ?_⟩,?_,λx c e=> ?_,?_,λx c e=> ?_,λp hp=> ?_,U,I.len⟩
 ·show j b o (L b o e) hb (y b o e hx) (I.base.keep b o e n hb hx) (I.base.free b o e n hx)
 ·let⟨Y,A⟩:=I.base.slot b o e n hb hx
  let⟨W,Q⟩:=D b _ (L b o e) hb (y b o e hx) A (I.base.free b o e n hx);show⟨W,Q⟩
 ·let⟨K,A⟩:=I.base.there b o e hx
  show a b K (y b o e hx) A (I.base.free b o e n hx)
 ·let⟨K,A⟩:=I.base.there b o e hx
  show E b K (y b o e hx) A
 ·let⟨m1,A⟩:=I.base.tbls b S e
  let⟨m2,Q⟩:=R b _ A;show⟨m1++m2,by rw[Q,Array.append_assoc]⟩
 ·let⟨m,hn,hl⟩:=I.loc
  exists m,ns m hn,λi x v A Q e3=> ?_;let⟨u,r,l⟩:=hl i x v A Q e3;exists u,r,?_
  rcases l with l|⟨k,c,e,z⟩
  ·show .inl l
  ·show .inr ⟨k,Y_12 c e (g x c e _ z)⟩
 ·let⟨v,z⟩:=I.cell x c e
  show⟨v,g x c e v z⟩
 ·obtain⟨m,⟨o,_,_,J,_⟩,_⟩:=I.loc
  show a _ o (λz=>(h _ z).2.1 rfl) J I.free
 ·let⟨v,o,J,T⟩:=I.cell x c e
  show a c o (λz=>(h c z).2.2.1 x c e rfl) J (I.freeC x c e)
 ·let⟨e,n,ne,nf,d⟩:=I.pin p hp
  let f:=λz=>(h p.1 z).2.2.2 p hp rfl;show⟨j p.1 p.2 ne nf f e n,a p.1 p.2 f e n,ne,nf,d⟩
def Inv.un{t':Nat}(I:Inv X pins σ H s)(u:Un X.fs [] H H' s.heap h')(d:eO X.prog X.w H' h'):Inv X pins σ H' {s with heap:=h',toks:=t'}:=by obtain⟨m,⟨o,p,j,g,r⟩,_⟩:=id I.loc;let⟨q,i⟩:=u.any g I.free 03;show I.step (ch:=[]) (λ_ z=>nomatch z) (λb o _ hb _ e n=>u.keep b o e n hb 03) (λb o _ hb _ e n=>u.slot b o e n hb 03) (λb o _ e n=>u.free b o e n 03) (λb o _ e=>u.there b o e 03) u.tups u.frzs u.tbls (λm' hm=>by let⟨l,f,c,a,h⟩:=hm;rw[g]at a;ext a;exists _,f,c,i,h) d I.bare
def Inv.call{g':Array GenState}{t':Nat}{d':Drawn}{ch:List Addr}(I:Inv X pins σ H s)(u:Un (uo X.stack) ch H H' s.heap h')(g:eO X.prog X.w H' h')(q:AllBare g')
  (a:∀b∈ch,(b∈X.ex\/X.s₀.heap.objs.size<=b)/\b≠X.env.locals/\(∀x c,X.env.cells.lookup x=some c->c≠b)/\∀p∈X.pn++pins,p.1≠b) :
  Inv X pins σ H' {s with heap:=h',gens:=g',drawn:=d',toks:=t'}:=by
 obtain⟨m,⟨o,v,A,j,r⟩,_⟩:=id I.loc;let⟨C,h⟩:=u.any j I.free λz=>(a _ z).2.1 rfl;show I.step a (λb o h hb hc e n=>u.keep b o e n (λz=>(NH.mp (I.stkSub b z)).elim h hb) hc) (λb o _ _ hc e n=>u.any e n hc) (λb o hc e n=>u.free b o e n hc) (λb o hc e=>u.there b o e hc) u.tups u.frzs u.tbls (λm' hm=>by let⟨y,i,f,d,l⟩:=hm;rw[j]at d;ext d;exists _,i,f,h,l) g q
def Inv.turned{t':Nat}{it:Addr}(I:Inv X pins σ H s)(k:∀b o,b≠it->s.heap.get? b=some o->h'.get? b=some o)(g:H it=none)(d:it≠X.env.locals)
  (j:it∈X.ex\/X.s₀.heap.objs.size<=it) (m:∀x c,X.env.cells.lookup x=some c->c≠it) (l:∀p∈X.pn++pins,p.1≠it):Inv X pins σ H {s with heap:=h',toks:=t'}:=by
 let a:∀b u,H b=some u->b≠it:=λb u e z=>by rw[z,g]at e;ext e
 show I.step (ch:=[it]) (λb hb=> ?_) (λb o _ _ hc e _=>k b o (λz=>hc (by simp[z])) e) (λb o _ _ hc e _=>⟨o.slots,k b o (λz=>hc (by simp[z])) e⟩) (λ_ _ _ _ n=>n)
  (λb o hc e=>⟨o,k b o (λz=>hc (by simp[z])) e⟩) (λ_ _ e=>e) (λ_ _ _ e=>e) (λb ps e=>⟨#[],by rw[e];simp⟩) (λm hm=> ?_) (λb u e=> ?_) I.bare
 ·let e:b=it:=by simpa using hb
  subst e;show⟨j,d,m,l⟩
 ·let⟨o,f,i,h,r⟩:=hm
  exists o,f,i,k _ o (OC d) h,r
 ·show(I.hok b u e).stay (λc v hc q=>k c v ?_ q) (λ_ q=>q) λ_ _ q=>q
  rcases hc with z|z
  ·rw[z];show a b u e
  ·show a c _ z
theorem Inv.tok(I:Inv X pins σ H s)(t:Nat):Inv X pins σ H {s with toks:=t}:=I.un Un.refl I.hok
theorem Inv.kept{t':Nat}(I:Inv X pins σ H s)(k:∀b u,s.heap.get? b=some u->h'.get? b=some u):Inv X pins σ H {s with heap:=h',toks:=t'}:=I.un (Un.kept k) (I.hok.kept k)
theorem Inv.laid{a:Addr}{o:HO}{t':Nat}(I:Inv X pins σ H s)(k:∀b u,s.heap.get? b=some u->h'.get? b=some u)(d:s.heap.objs.size<=a)(c:aw X.prog X.w (upd H a o) h' a o) :
  Inv X pins σ (upd H a o) {s with heap:=h',toks:=t'}:=I.un (Un.laid k d (I.hok.fresh d)) (I.hok.laid k d c)
theorem Inv.write{x e:Addr}{o:HO}(I:Inv X pins σ H s)(f:KU (H x))(d:e=x\/H e=some (.own x))(k:∀b u,b≠e->s.heap.get? b=some u->h'.get? b=some u)(a:∃u,h'.get? e=some u)
  (c:aw X.prog X.w (upd H x o) h' x o):Inv X pins σ (upd H x o) {s with heap:=h',toks:=g}:=I.un (Un.write f d k a) (I.hok.write f d k a c)
theorem Inv.weak(I:Inv X pins σ H s)(b:a.length=σ.length)(w:∀(i:Nat) v,a[i]? =some (some v)->σ[i]? =some (some v)):Inv X pins a H s := ⟨I.ok,I.os,I.bare,I.base,let⟨m,hn,hl'⟩:=I.loc;⟨m,hn,λi x v e1 e2 e3=>hl' i x v e1 (w i v e2) e3⟩,I.cell,I.free,I.freeC,I.pin,I.hok,b.trans I.len⟩
theorem Inv.pins_of(I:Inv X pins σ H s)(h:∀p∈a,s.heap.get? p.1=some p.2/\H p.1=none/\p.1≠X.env.locals/\p.1∉X.fs/\∀v,p.2.data≠.cell v):Inv X a σ H s := ⟨I.ok,I.os,I.bare,I.base,I.loc,I.cell,I.free,I.freeC,λp hp=>(Nc.mp hp).elim (λz=>I.pin p (Ni _ z)) (h p),I.hok,I.len⟩
def jn{N:List Str}(d:N.Nodup){i j:Nat}(a:N[i]? =some x)(b:N[j]? =some x):i=j:=by let⟨f,e⟩:=NC.mp a;let⟨g,c⟩:=NC.mp b;show(List.getElem_inj d).mp (e.trans c.symm)
def oG{A:Around}{v:V}(I:Inv X pins σ H s)(hN:X.N.Nodup)(hi:X.N[i]? =some x)(hx:Loc X.env.scope x)(r:RelV v u)
  (h:∀s',Inv X pins (σ.set i (some v)) H s' ->(∃a,Heap.SameBut a s.heap s'.heap/\(a=X.env.locals\/X.env.cells.lookup x=some a))->Q () s') (hf:X.fn x=true\/X.env.scope.names.lookup x=some .local:=by first|exact .inl rfl|exact .inr rfl|assumption):wpAny M A (storeName X.env x u) Q E s:=by
 let⟨m,hn,hl⟩:=id I.loc;let hcls:(X.env.scope.kind== .class||(X.env.scope.kind== .module&&X.env.locals !=X.env.globals))=false:=by rw[I.ok.kind];rfl
 let hiσ:i<σ.length:=by rw[I.len];show(NC.mp hi).1
 let cne:=I.cne;let tracked:∀{a:Addr}{h' :Heap},(∃o,s.heap.get? a=some o/\H a=none)->Heap.SameBut a s.heap h' ->eO X.prog X.w H h' :=λ{a h'} ha hs b ob e=>by
  let⟨_,_,hfree⟩:=ha;show(I.hok b ob e).stay (λc w' hc q=>(hs.2 c ?_).trans q) (λ_ q=>q) λ_ _ q=>q;rintro rfl
  rcases hc with rfl|hc
  ·rw[hfree]at e;ext e
  ·rw[hfree]at hc;ext hc
 rcases hx with hk|hk
 ·show wpAny_storeName_local hk hn (λh' hn' hs=> ?_) hcls
  let⟨oL,_,_,hoL,_⟩:=id hn;show h _ ⟨I.ok,I.os,I.bare,⟨λb o e n hb hx=> ?_,λb o e n hb hx=> ?_,I.base.free,λb o e hx=> ?_,I.base.tups,I.base.frzs,I.base.tbls⟩,Y_12 _ hn' (λj y v' e1 e2 e3=> ?_),λy c e=> ?_,I.free,I.freeC,λp hp=> ?_,tracked (Y_12 oL hoL I.free) hs,by simpa using I.len⟩ (Y_12 _ hs (.inl rfl))
  ·show(hs.2 b (Na (Nq (NQ e) I.ok.above))).trans (I.base.keep b o e n hb hx)
  ·let⟨sl,e1⟩:=I.base.slot b o e n hb hx
   show⟨sl,(hs.2 b (Na (Nq (NQ e) I.ok.above))).trans e1⟩
  ·let⟨o',e1⟩:=I.base.there b o e hx
   show⟨o',(hs.2 b (Na (Nq (NQ e) I.ok.above))).trans e1⟩
  ·by_cases hj:j=i
   ·subst hj
    rw[hi]at e1;ext e1;rw[OI hiσ]at e2;ext e2;exists u,r,.inl ⟨hk,03⟩
   ·rw[N5 (OC hj)]at e2
    let⟨u',r',q⟩:=hl j y v' e1 e2 e3;exists u',r',?_
    rcases q with⟨k,e⟩|⟨k,c,e,z⟩
    ·show .inl ⟨k,?_⟩
     have:y≠x:=λe=>hj (jn hN e1 (e▸hi));simp[this,e]
    ·show .inr ⟨k,Y_12 c e (z.sameBut hs (cne y c e))⟩
  ·let⟨w',z⟩:=I.cell y c e
   show⟨w',z.sameBut hs (cne y c e)⟩
  ·let⟨e,n,ne,nf,d⟩:=I.pin p hp
   show⟨(hs.2 p.1 ne).trans e,n,ne,nf,d⟩
 ·let hfn:X.fn x=true:=by
   rcases hf with z|z
   ·show z
   ·rw[z]at hk;ext hk
  let⟨c,hc⟩:=I.ok.has x (.inl hk);let⟨w',z⟩:=I.cell x c hc;show wpAny_storeName_cell I.ok.kind hk hc z (λh' hc' hs=> ?_);let⟨oc,hoc,hocd⟩:=id z;show h {s with heap:=h'} ⟨I.ok,I.os,I.bare,⟨λb o e n hb hx=> ?_,λb o e n hb hx=> ?_,I.base.free,λb o e hx=> ?_,I.base.tups,I.base.frzs,I.base.tbls⟩,Y_12 m (hn.sameBut hs (OC (cne x c hc))) (λj y v' e1 e2 e3=> ?_),λy c' e=> ?_,I.free,I.freeC,λp hp=> ?_,tracked (Y_12 oc hoc (I.freeC x c hc)) hs,by simpa using I.len⟩ (Y_12 c hs (.inr hc))
  ·show(hs.2 b (Na (Nq (NQ e) (I.ok.cab x c hfn hc)))).trans (I.base.keep b o e n hb hx)
  ·let⟨sl,e1⟩:=I.base.slot b o e n hb hx
   show⟨sl,(hs.2 b (Na (Nq (NQ e) (I.ok.cab x c hfn hc)))).trans e1⟩
  ·let⟨o',e1⟩:=I.base.there b o e hx
   show⟨o',(hs.2 b (Na (Nq (NQ e) (I.ok.cab x c hfn hc)))).trans e1⟩
  ·by_cases hj:j=i
   ·subst hj
    rw[hi]at e1;ext e1;rw[OI hiσ]at e2;ext e2;exists u,r,.inr ⟨.inl hk,Y_12 c hc hc'⟩
   ·rw[N5 (OC hj)]at e2
    let⟨u',r',q⟩:=hl j y v' e1 e2 e3;exists u',r',?_
    rcases q with q|⟨k,c',e,z'⟩
    ·show .inl q
    ·show .inr ⟨k,Y_12 c' e (z'.sameBut hs ?_)⟩
     rintro rfl;show hj (jn hN e1 (I.ok.inj _ _ _ e hc▸hi))
  ·by_cases hcc:c' =c
   ·subst hcc;show⟨_,hc'⟩
   ·let⟨w2,z2⟩:=I.cell y c' e
    show⟨w2,z2.sameBut hs hcc⟩
  ·let⟨e,n,ne,nf,d⟩:=I.pin p hp
   show⟨(hs.2 p.1 ?_).trans e,n,ne,nf,d⟩;intro q;rw[q,hoc]at e;let q' :=Nf e;show d w' (by rwa[<- q'])
theorem gE{A:Around}{v:V}(I:Inv X pins σ H s)(hN:X.N.Nodup)(hi:X.N[i]? =some x)(hx:Loc X.env.scope x)(r:RelV v u)
  (h:∀s',Inv X pins (σ.set i (some v)) H s' ->Q () s') (hf:X.fn x=true\/X.env.scope.names.lookup x=some .local:=by first|exact .inl rfl|exact .inr rfl|assumption):wpAny M A (storeName X.env x u) Q E s :=
 oG I hN hi hx r (λs' I' _=>h s' I') hf
def Inv.call'{s':Shared}{ch:List Addr}(I:Inv X pins σ H s)(l:s'.os=s.os)(u:Un (uo X.stack) ch H H' s.heap s'.heap)(d:eO X.prog X.w H' s'.heap)(j:AllBare s'.gens)
  (a:∀b∈ch,(b∈X.ex\/X.s₀.heap.objs.size<=b)/\b≠X.env.locals/\(∀x c,X.env.cells.lookup x=some c->c≠b)/\∀p∈X.pn++pins,p.1≠b):Inv X pins σ H' s' :=by
 obtain⟨m,f,h,g,i⟩:=s';subst l;show I.call u d j a
end
abbrev XK:=Value->Option Addr->Hp->Prop
abbrev St:=List (Option V)
abbrev VK:=V->Hp->Prop
abbrev TE:=St->Hp->VK->Prop
abbrev TT:=St->Hp->(Bool->Hp->Prop)->Prop
abbrev TA:=St->Hp->(List V->Hp->Prop)->Prop
structure dX where
 nx:St->Hp->Prop
 rt:VK
 bk:St->Hp->Prop:=fun _ _=>False
 ct:St->Hp->Prop:=fun _ _=>False
abbrev TS:=dX->St->Hp->Prop
def EP(X:Cx)(a:List (Addr×Obj))(c:St)(Q:VK)(u:Value)(d :Shared):Prop:=∃v b,Inv X a c b d /\RelV v u/\Q v b
def TP(X:Cx)(a:List (Addr×Obj))(d:St)(Q:Bool->Hp->Prop)(b:Bool)(e :Shared):Prop:=∃c,Inv X a d c e /\Q b c
def AP(X:Cx)(a:List (Addr×Obj))(d:St)(Q:List V->Hp->Prop)(us:List Value)(e :Shared):Prop:=∃b c,Inv X a d c e /\aQ b us/\Q b c
def SP(X:Cx)(b:List (Addr×Obj))(D:dX)(f:Flow)(d :Shared):Prop :=
 match f with
 | .next=>∃a c,Inv X b a c d /\D.nx a c| .brk=>∃a c,Inv X b a c d /\D.bk a c| .cont=>∃a c,Inv X b a c d /\D.ct a c| .ret u=>∃v a c,Inv X b a c d /\RelV v u/\D.rt v c
def PE(X:Cx)(e:Expr)(t:TE):Prop :=
 ∀(a:List (Addr×Obj))(s:Shared)(b:St)(H:Hp)(Q:VK),Inv X a b H s->t b H Q->wpAny (model X.prog X.w) X.A (eval e X.env) (EP X a b Q) X.xe s
def PT(X:Cx)(e:Expr)(t:TT):Prop :=
 ∀(a:List (Addr×Obj))(s:Shared)(b:St)(H:Hp)(Q:Bool->Hp->Prop),Inv X a b H s->t b H Q->wpAny (model X.prog X.w) X.A (isTrue e X.env (eval e X.env)) (TP X a b Q) X.xe s
def PW(X:Cx)(e:Expr)(t:TT):Prop :=
 ∀(b:Sem Value)(a:List (Addr×Obj))(s:Shared)(c:St)(H:Hp)(Q:Bool->Hp->Prop),Inv X a c H s->t c H Q->wpAny (model X.prog X.w) X.A (isTrue e X.env b) (TP X a c Q) X.xe s
theorem PW.pt{t:TT}(h:PW X e t):PT X e t:=h _
def PA(X:Cx)(c:List Expr)(t:TA):Prop :=
 ∀(pos:Pos)(a:List (Addr×Obj))(s:Shared)(b:St)(H:Hp)(Q:List V->Hp->Prop),Inv X a b H s->t b H Q->wpAny (model X.prog X.w) X.A (spliced (backTo pos (starEach c X.env))) (AP X a b Q) X.xe s
def PS(X:Cx)(c:Stmt)(t:TS):Prop :=
 ∀(a:List (Addr×Obj))(s:Shared)(b:St)(H:Hp)(D:dX),Inv X a b H s->t D b H->wpAny (model X.prog X.w) X.A (exec c X.env) (SP X a D) X.xe s
def rA(X:Cx)(c:List Stmt)(t:TS):Prop :=
 ∀(a:List (Addr×Obj))(s:Shared)(b:St)(H:Hp)(D:dX),Inv X a b H s->t D b H->wpAny (model X.prog X.w) X.A (execs c X.env) (SP X a D) X.xe s
theorem ar{c:Type}{t:Sem c}{Q b:c->Shared->Prop}{A:Around}{s:Shared}(h:wpAny M A t Q E s)(d:∀a s,Q a s->b a s):wpAny M A t b E s:=OR h d λ_ _ x=>x
section
variable{X:Cx}
def bin{a b:Expr}{m l:TE}(E:PE X a m)(p:PE X b l){c:List (Addr×Obj)}{s:Shared}{d:St}{H:Hp}{R:V->V->Hp->Prop}(I:Inv X c d H s)(h:m d H λx i=>l d i λy e=>R x y e)
  {j:Type} {Q:j->Shared->Prop} {f:Value->Value->Sem j}
  (C:∀v u g x y e,Inv X c d e g->RelV x v->RelV y u->R x y e->wpAny (model X.prog X.w) X.A (f v u) Q X.xe g) :
  wpAny (model X.prog X.w) X.A (eval a X.env) (λv s₁=>wpAny (model X.prog X.w) X.A (eval b X.env) (λu s₂=>wpAny (model X.prog X.w) X.A (f v u) Q X.xe s₂) X.xe s₁) X.xe s:=by
 show ar (E c s d H _ I h) λv s1 hpq=> ?_;let⟨x,i,r,o,D⟩:=hpq;show ar (p c s1 d i _ r D) λu g hpq=> ?_;let⟨y,e,q,z,n⟩:=hpq;show C v u g x y e q o z n
def HI(i:Nat):TE:=λσ H Q=>∃v,σ[i]? =some (some v)/\Q v H
def tC(v:V):TE:=λ_ H Q=>Q v H
def mF(y:X.N[i]? =some x)(q:KS X.env.scope x)(g:(x==("__debug__":Str))=false:=by decide)(j:(x==("__classdict__":Str))=false:=by decide):PE X (.Name x pos) (HI i):=by
 intro f s o H Q I h;let⟨v,e,h⟩:=h;let⟨m,w,p⟩:=I.loc;let⟨u,r,l⟩:=p i x v y e q;let d:EP X f o Q u s:=⟨v,H,I,r,h⟩
 rcases l with⟨b,z⟩|⟨b,c,n,a⟩
 ·show wpAny_Name (wpAny_loadName_local I.ok.kind b w z d) g
 ·rcases b with b|b
  ·show wpAny_Name (wpAny_loadName_cell I.ok.kind b n a d) g
  ·show wpAny_Name (wpAny_loadName_free I.ok.kind b n a d j) g
theorem aa{i j pos}:PE X (.Constant (.int i) j pos) (tC (.int i)):=λ_ _ _ H _ I h=>wpAny_Constant_int ⟨.int i,H,I.tok _,⟨_,rfl⟩,h⟩
theorem w5{b j pos}:PE X (.Constant (.bool b) j pos) (tC (.bl b)):=λ_ _ _ H _ I h=>Constant_bool ⟨.bl b,H,I,rfl,h⟩
theorem IB{j pos}:PE X (.Constant .none j pos) (tC .non):=λ_ _ _ H _ I h=>Constant_none ⟨.non,H,I,rfl,h⟩
theorem gI{x j pos}:PE X (.Constant (.str x) j pos) (tC (.str x)):=λ_ _ _ H _ I h=>Calls.Constant_str ⟨.str x,H,I.tok _,⟨_,rfl⟩,h⟩
def Gl(X:Cx)(x:Str):Prop:=X.env.kindOf x=some .globalImplicit
theorem jr{s:Shared}(I:Inv X a b H s)(d:Gl X x)(e:X.mg x=some u)(h:Q u s)
  (c:(x==("__debug__":Str))=false:=by decide):wpAny (model X.prog X.w) X.A (eval (.Name x pos) X.env) Q E s :=
 Calls.Name_function_global I.ok.kind d (Calls.loadGlobal_global (by rw[I.ok.glob];show I.mod.glob.keeps I.bk) e h) c
def fP{s:Shared}(I:Inv X a b H s)(g:Gl X x)(j:X.mg x=none)(i:bootBuiltins x=some u)(h:Q u s)
  (d:x≠"__name__":=by decide) (f:(x==("__debug__":Str))=false:=by decide):wpAny (model X.prog X.w) X.A (eval (.Name x pos) X.env) Q E s:=by
 let⟨l,c,e⟩:=I.mod.blt;show Calls.Name_function_global I.ok.kind g (Calls.loadGlobal_builtin (by rw[I.ok.glob];show I.mod.glob.keeps I.bk) j (by rw[I.ok.blt];show c.keeps I.bk) ((e x d).trans i) h) f
theorem EX(b:Gl X x)(c:X.mg x=some u)(r:RelV v u)(a:(x==("__debug__":Str))=false:=by decide):PE X (.Name x pos) (tC v) := λ_ _ _ H _ I h=>jr I b c ⟨v,H,I,r,h⟩ a
theorem EZ{v:V}(c:Gl X x)(e:X.mg x=none)(d:bootBuiltins x=some u)(r:RelV v u)(a:x≠"__name__":=by decide)(b:(x==("__debug__":Str))=false:=by decide):PE X (.Name x pos) (tC v) := λ_ _ _ H _ I h=>fP I c e d ⟨v,H,I,r,h⟩ a b
def t2I(b a:TE)(k:Int->Int->Hp->Prop):St->Hp->Prop:=λσ H=>b σ H λx H1=>a σ H1 λy H2=>∃i j,x=.int i/\y=.int j/\k i j H2
variable{a b:Expr}{ta tb:TE}{pos:Pos}
def PC(X:Cx)(e:CmpOp)(a b:Expr)(t:TE):Prop :=
 ∀(c:List (Addr×Obj))(s:Shared)(d:St)(H:Hp)(Q:VK),Inv X c d H s->t d H Q -> wpAny (model X.prog X.w) X.A (eval a X.env) (λv s₁=>wpAny (model X.prog X.w) X.A (eval b X.env) (λu s₂=>wpAny (model X.prog X.w) X.A (compareOp e v u) (EP X c d Q) X.xe s₂) X.xe s₁) X.xe s
def tJ(b:Expr)(h:c≠.In)(f:c≠.NotIn):behindInMarks c b=false:=by
 let e:(c==CmpOp.In)=false:=by ext c<;>first|rfl|show absurd rfl h
 let d:(c==CmpOp.NotIn)=false:=by ext c<;>first|rfl|show absurd rfl f
 ext b<;>simp[behindInMarks,e,d]
def HM(p:Int->Int->Bool)(c d:TE):TE:=λσ H Q=>t2I c d (λi j H2=>Q (.bl (p i j)) H2) σ H
abbrev tLe:TE->TE->TE:=HM λi j=>decide (i<=j)
abbrev tEqI:TE->TE->TE:=HM λi j=>decide (i=j)
def BY(f:PE X a ta)(g:PE X b tb)
  (c:∀(i j:Int)(t u:Tok)(Q:Value->Shared->Prop)(s:Shared),Q (.bool (p i j)) s->wpAny (model X.prog X.w) X.A (compareOp d (.int i t) (.int j u)) Q X.xe s):PC X d a b (HM p ta tb):=by
 intro e s m H Q I h;show bin f g I h λv u s2 x y H2 I2 rx ry q=> ?_;obtain⟨i,j,rfl,rfl,q⟩:=q;let⟨t,rfl⟩:=rx;let⟨l,rfl⟩:=ry;show c i j t l _ s2 ⟨.bl _,H2,I2,rfl,q⟩
theorem LJ(d:PE X a ta)(c:PE X b tb):PC X .LtE a b (tLe ta tb):=BY d c λ_ _ _ _ _ _ h=>le_int h
theorem IG(d:PE X a ta)(c:PE X b tb):PC X .Eq a b (tEqI ta tb):=BY d c λ_ _ _ _ _ _ h=>eq_int (by rwa[PN])
def Ki(c:TE):TE:=λσ H Q=>c σ H λx H1=>Q (.bl (!decide (x=.non))) H1
def RelV.none_iff(r:RelV x v):(v==Value.none)=decide (x=.non):=by
 cases x with
 |non=>ext r;rfl|bl _=>ext r;rfl|int _=>let⟨t,rfl⟩:=r;rfl
 |str _=>let⟨t,rfl⟩:=r;rfl
 |byt _=>let⟨t,rfl⟩:=r;rfl
 |flt _=>let⟨t,rfl⟩:=r;rfl
 |ref _=>ext r;rfl|ty _=>ext r;rfl
def Ea{j pos'}(e:PE X a ta):PC X .IsNot a (.Constant .none j pos') (Ki ta):=by intro c s d H Q I h;show ar (e c s d H _ I h) λv s1 hpq=> ?_;let⟨x,g,i,f,l⟩:=hpq;show Constant_none (isnot_none_gen ⟨.bl _,g,i,by rw[f.none_iff];rfl,l⟩)
def tB(t:TE):TT:=λσ H Q=>t σ H λx H1=>∃c,x=.bl c/\Q c H1
theorem IF{t:TE}(h:PC X c a b t)(d:behindInMarks c b=false:=by first|exact tJ _ (by decide) (by decide)|rfl):PE X (.Compare a [c] [b] pos) t:=λpins s σ H Q I hw=>wpAny_Compare1 (h pins s σ H Q I hw) d
def pi{t:TE}(h:PC X f a b t)(e:behindInMarks f b=false:=by first|exact tJ _ (by decide) (by decide)|rfl):PT X (.Compare a [f] [b] pos) (tB t):=by intro c s g H Q I i;show wpAny_isTrue_Compare1 (ar (h c s g H _ I i) λv s1 e=>ar e λu s2 h2=>ar h2 λc s3 ⟨x,H1,I1,r1,q1⟩=> ?_) e;let⟨d,rfl,q⟩:=q1;ext r1;show OS ⟨H1,I1,q⟩
def vM{t:TE}(h:PE X e t)(j:∀c,isTrue e X.env c=(do let v<-c;standAt e.pos;holding [v] (truthy v)):=by intro _;rfl):PT X e (tB t):=by intro f s g H Q I i;show isTrue_plain (ar (h f s g H _ I i) λv s1 ⟨x,H1,I1,r1,q1⟩=> ?_) (j _);let⟨d,rfl,q⟩:=q1;ext r1;show OS ⟨H1,I1,q⟩
variable{tA tB' :TT}{aJ:List Expr}
def tAnd(t u:TT):TT:=λσ H Q=>t σ H λc H1=>if c=true then u σ H1 Q else Q false H1
def tOr(t u:TT):TT:=λσ H Q=>t σ H λc H1=>if c=true then Q true H1 else u σ H1 Q
def tNot(t:TT):TT:=λσ H Q=>t σ H λc H1=>Q (!c) H1
def wn(g:PT X a tA):PW X (.BoolOp .And [a] pos) tA:=by
 intro i d s f H Q I h;show isTrue_and (ar (g d s f H Q I h) λc s1 e=> ?_);cases c with
 |true=>show isTrue_and_nil e|false=>show e
def vL(g:PT X a tA):PW X (.BoolOp .Or [a] pos) tA:=by
 intro i d s f H Q I h;show isTrue_or (ar (g d s f H Q I h) λc s1 e=> ?_);cases c with
 |false=>show isTrue_or_nil e|true=>show e
def BF(j:PT X a tA)(m:PW X (.BoolOp .And (b::aJ) pos) tB'):PW X (.BoolOp .And (a::b::aJ) pos) (tAnd tA tB'):=by
 intro l d s e H Q I h;show isTrue_and (ar (j d s e H _ I h) λc s1 hpq=> ?_);let⟨f,g,i⟩:=hpq;cases c with
 |true=>show m l d s1 e f Q g i|false=>exists f,g,i
def BE(j:PT X a tA)(m:PW X (.BoolOp .Or (b::aJ) pos) tB'):PW X (.BoolOp .Or (a::b::aJ) pos) (tOr tA tB'):=by
 intro l d s e H Q I h;show isTrue_or (ar (j d s e H _ I h) λc s1 hpq=> ?_);let⟨f,g,i⟩:=hpq;cases c with
 |true=>exists f,g,i|false=>show m l d s1 e f Q g i
def vN(f:PT X a tA):PT X (.UnaryOp .Not a pos) (tNot tA):=by intro d s e H Q I h;show isTrue_not (f d s e H (λc H1=>Q (!c) H1) I h)
def Kp(d e:TE):TE:=λσ H Q=>d σ H λx H1=>∃c,x=.bl c/\if c=true then e σ H1 Q else Q (.bl false) H1
def tOrV(d e:TE):TE:=λσ H Q=>d σ H λx H1=>∃c,x=.bl c/\if c=true then Q (.bl true) H1 else e σ H1 Q
def Kh(d:TE):TE:=λσ H Q=>d σ H λx H1=>∃c,x=.bl c/\Q (.bl (!c)) H1
theorem Hz{op}{t:TE}(h:PE X a t):PE X (.BoolOp op [a] pos) t:=λpins s σ H Q I hw=>BoolOp_one (h pins s σ H Q I hw)
def BX(j:PE X a ta)(m:PE X (.BoolOp .And (b::aJ) pos) tb):PE X (.BoolOp .And (a::b::aJ) pos) (Kp ta tb):=by
 intro d s f H Q I h;show BoolOp_and (ar (j d s f H _ I h) λv s1 hpq=> ?_);let⟨x,g,i,l,e⟩:=hpq;obtain⟨c,rfl,e⟩:=e;ext l;show OS ?_;cases c with
 |true=>show m d s1 f g Q i e|false=>exists .bl false,g,i,rfl,e
def GU(j:PE X a ta)(m:PE X (.BoolOp .Or (b::aJ) pos) tb):PE X (.BoolOp .Or (a::b::aJ) pos) (tOrV ta tb):=by
 intro d s f H Q I h;show BoolOp_or (ar (j d s f H _ I h) λv s1 hpq=> ?_);let⟨x,g,i,l,e⟩:=hpq;obtain⟨c,rfl,e⟩:=e;ext l;show OS ?_;cases c with
 |false=>show m d s1 f g Q i e|true=>exists .bl true,g,i,rfl,e
def IA(g:PE X a ta):PE X (.UnaryOp .Not a pos) (Kh ta):=by intro d s f H Q I h;show UnaryOp_ (ar (g d s f H _ I h) λv s1 hpq=> ?_);let⟨x,j,l,i,e⟩:=hpq;obtain⟨c,rfl,e⟩:=e;ext i;show not_of (OS ⟨.bl (!c),j,l,rfl,e⟩)
def tIf(t:TT)(d e:TE):TE:=λσ H Q=>t σ H λc H1=>if c=true then d σ H1 Q else e σ H1 Q
def BV(m:PT X c tA)(l:PE X a ta)(n:PE X b tb):PE X (.IfExp c a b pos) (tIf tA ta tb):=by
 intro e s f H Q I h;show wpAny_IfExp (ar (m e s f H _ I h) λd s1 hpq=> ?_);let⟨g,i,j⟩:=hpq;cases d with
 |true=>show l e s1 f g Q i j|false=>show n e s1 f g Q i j
end
def bG(K:W.Frag)(H:Hp)(a:Addr)(c:List V):Prop :=
 Rd H a (.lst c) \/ ∃(o:Obj)(b:Array Value)(n:Nat),K.lookup a=some o/\o.cls=.type "list"/\o.dict=none/\o.data=.seq b n/\b.size<=sizeLine/\aQ c b.toList
def dg(K:W.Frag)(H:Hp)(a:Addr)(c:List V):Prop :=
 Rd H a (.tup c) \/ ∃(o:Obj)(b:Array Value)(n:Nat),K.lookup a=some o/\o.cls=.type "tuple"/\o.dict=none/\o.data=.seq b n/\b.size<=sizeLine/\aQ c b.toList
def absV:Value->Option V
 | .none=>some .non| .bool b=>some (.bl b)| .int i _=>some (.int i)| .str x _=>some (.str x)| .bytes b _=>some (.byt b)| .float b _=>some (.flt b)| .ref a=>some (.ref a)| .type n=>some (.ty n)|_=>none
def RelV.abs(r:RelV x u):absV u=some x:=by
 cases x with
 |non=>ext r;rfl|bl _=>ext r;rfl|int _=>let⟨t,rfl⟩:=r;rfl
 |str _=>let⟨t,rfl⟩:=r;rfl
 |byt _=>let⟨t,rfl⟩:=r;rfl
 |flt _=>let⟨t,rfl⟩:=r;rfl
 |ref _=>ext r;rfl|ty _=>ext r;rfl
theorem RelV.inj(r:RelV x u)(q:RelV y u):x=y:=Nf (r.abs.symm.trans q.abs)
def aQ.inj{us:List Value}(h:aQ b us)(k:aQ a us):b=a:=by
 induction h generalizing a with
 |nil=>ext k;rfl|cons r t d =>
  cases k with
  |cons c e =>rw[r.inj c,d e]
section
variable{X:Cx}{pins:List (Addr×Obj)}{σ:St}{H:Hp}{s:Shared}{a:Addr}{xs ys:List V}
theorem bG.of{K:W.Frag}(h:H a=some (.lst xs)):bG K H a xs:=.inl (.inl h)
theorem dg.of{K:W.Frag}(h:H a=some (.tup xs)):dg K H a xs:=.inl (.inl h)
def Inv.list(I:Inv X pins σ H s)(h:bG X.K H a xs):∃b:List Value,aQ xs b/\PlainL s.heap a b.toArray/\xs.length<=sizeLine:=by
 rcases h with h|⟨o,b,n,d,f,g,c,i,r⟩
 ·show X_02 (λz=>X_22 λb n r e=> ?_) (h.ok I.hok)
  exists b,r,⟨_,n,e,rfl,rfl,rfl⟩,z
 ·exists b.toList,r,⟨o,n,I.kIn a o d,f,g,by simpa using c⟩,?_
  let e:=r.length;simp only[Ng]at e;lia
def Inv.tuple(I:Inv X pins σ H s)(h:dg X.K H a xs):∃b:List Value,aQ xs b/\IsTup s.heap a b.toArray/\xs.length<=sizeLine:=by
 rcases h with h|⟨o,b,n,d,f,_,c,g,r⟩
 ·show X_02 (λz=>X_12 λb r p=> ?_) (h.ok I.hok)
  exists b,r,p.tup,z
 ·exists b.toList,r,⟨o,I.kIn a o d,f,n,by simpa using c⟩,?_
  let e:=r.length;simp only[Ng]at e;lia
def Inv.tupleD(I:Inv X pins σ H s)(h:dg X.K H a xs):∃o,s.heap.get? a=some o/\o.cls=.type "tuple"/\o.dict=none:=by
 rcases h with h|⟨o,b,n,f,g,i,_⟩
 ·show X_02 (λz=>X_12 λb r=>X_13 λo e c=>X_12 λn _ d=> ?_) (h.ok I.hok)
  exists o,e,c,d
 ·exists o,I.kIn a o f,g,i
def Inv.list_inj(I:Inv X pins σ H s)(h:bG X.K H a xs)(j :bG X.K H a ys):xs=ys:=by
 obtain⟨c,r,⟨o,n,e,_,_,d⟩,_⟩:=I.list h;obtain⟨b,i,⟨l,m,f,_,_,g⟩,_⟩:=I.list j;rw[e]at f;ext f;rw[d]at g
 injection g with d1 _
 have:c=b :=by simpa using N6 Array.toList d1
 subst this;show r.inj i
def Inv.tuple_inj(I:Inv X pins σ H s)(h:dg X.K H a xs)(j :dg X.K H a ys):xs=ys:=by
 obtain⟨c,r,⟨o,e,_,n,d⟩,_⟩:=I.tuple h;obtain⟨b,i,⟨l,f,_,m,g⟩,_⟩:=I.tuple j;rw[e]at f;ext f;rw[d]at g
 injection g with d1 _
 have:c=b :=by simpa using N6 Array.toList d1
 subst this;show r.inj i
end
abbrev Cx.wish(X:Cx)(E:Value->Shared->Prop):Cx:={X with xe:=E}
abbrev Cx.nox(X:Cx):Cx:=X.wish λ_ _=>False
theorem Cx.Ok.wish{X:Cx}(a:X.Ok)(E:Value->Shared->Prop):(X.wish E).Ok := ⟨a.mod,a.kind,a.glob,a.blt,a.above,a.inj,a.has,a.cab,a.hd,a.frames,a.stk,a.exf,a.bs,a.bsz,a.noex,a.exfs,a.funs,a.frf⟩
theorem Cx.Ok.unwish{X:Cx}(a:(X.wish E).Ok):X.Ok := ⟨a.mod,a.kind,a.glob,a.blt,a.above,a.inj,a.has,a.cab,a.hd,a.frames,a.stk,a.exf,a.bs,a.bsz,a.noex,a.exfs,a.funs,a.frf⟩
section
variable{X:Cx}{pins:List (Addr×Obj)}{σ:St}{H:Hp}{s:Shared}{E:Value->Shared->Prop}
theorem Inv.wish(I:Inv X pins σ H s)(E:Value->Shared->Prop):Inv (X.wish E) pins σ H s:=⟨I.ok.wish E,I.os,I.bare,I.base,I.loc,I.cell,I.free,I.freeC,I.pin,I.hok,I.len⟩
theorem Inv.unwish(I:Inv (X.wish E) pins σ H s):Inv X pins σ H s:=⟨I.ok.unwish,I.os,I.bare,I.base,I.loc,I.cell,I.free,I.freeC,I.pin,I.hok,I.len⟩
def SP.unwish(h:SP (X.wish E) pins D f c):SP X pins D f c :=by
 cases f with
 |next=>let⟨a,b,I,q⟩:=h;exists a,b,I.unwish,q
 |brk=>let⟨a,b,I,q⟩:=h;exists a,b,I.unwish,q
 |cont=>let⟨a,b,I,q⟩:=h;exists a,b,I.unwish,q
 |ret u=>let⟨v,a,b,I,r,q⟩:=h;exists v,a,b,I.unwish,r,q
theorem rA.nox{t:TS}(h:rA X.nox a t):rA X a t:=λpins s σ H D I hw =>
 OR (h pins s σ H D (I.wish _) hw) (λ_ _ q=>q.unwish) λ_ _ z=>False.elim z
end
section
variable{X:Cx}{st:Stmt}{aJ:List Stmt}{t u:TS}{e:Expr}{te:TE}{pos:Pos}
def GN:TS:=λD σ H=>D.nx σ H
def tSeq(t u:TS):TS:=λD σ H=>t {D with nx:=u D} σ H
theorem dq:rA X [] GN:=λ_ _ σ H _ I h=>QQ ⟨σ,H,I,h⟩
def aK(d:PS X i t)(g:rA X aJ u):rA X (i::aJ) (tSeq t u):=by
 intro a s c H D I h;show wpAny_execs_cons (ar (d a s c H {D with nx:=u D} I h) λf s1 q=> ?_);cases f with
 |next =>let⟨b,j,l,q⟩:=q;show g a s1 b j D l q
 |ret v=>show q|brk=>show q|cont=>show q
def aS(c:PS X st t):rA X [st] t:=by
 intro a s b H D I h;show wpAny_execs_cons (ar (c a s b H D I h) λf s1 q=> ?_);cases f with
 |next=>show QQ q|ret v=>show q|brk=>show q|cont=>show q
def HP:TS:=λD σ H=>D.bk σ H
def Km:TS:=λD σ H=>D.ct σ H
theorem ER:PS X (.Pass pos) GN:=λ_ _ σ H _ I h=>wpAny_Pass ⟨σ,H,I,h⟩
theorem BL:PS X (.Break pos) HP:=λ_ _ σ H _ I h=>wpAny_Break ⟨σ,H,I,h⟩
theorem sf:PS X (.Continue pos) Km:=λ_ _ σ H _ I h=>wpAny_Continue ⟨σ,H,I,h⟩
def Inv.quiet{s:Shared}(I:Inv X a b H s):interactive X.env=false:=by simp[interactive,I.ok.kind]
def Kj(a:TE):TS:=λD σ H=>a σ H λ_ H1=>D.nx σ H1
def gr(d:PE X e te)(c:swapsWith e none pos.line X.env=pure false:=by rfl):PS X (.Expr e pos) (Kj te):=by intro a s b H D I h;show wpAny_Expr_any (ar (d a s b H _ I h) λv s1 ⟨x,H1,I1,r1,q1⟩=>⟨b,H1,I1,q1⟩) I.quiet c
def tRet(a:TE):TS:=λD σ H=>a σ H D.rt
def bo(c:PE X e te):PS X (.Return (some e) pos) (tRet te):=by intro a s b H D I h;show wpAny_Return_some (ar (c a s b H _ I h) λv s1 ⟨x,H1,I1,r1,q1⟩=>⟨x,b,H1,I1,r1,q1⟩)
def Kf:TS:=λD _ H=>D.rt .non H
theorem EQ:PS X (.Return none pos) Kf:=λ_ _ σ H _ I h=>wpAny_Return_none ⟨.non,σ,H,I,rfl,h⟩
def tIfS(c:TT)(t u:TS):TS:=λD σ H=>c σ H λb H1=>if b=true then t D σ H1 else u D σ H1
def jd(o:PT X c i)(n:rA X a t)(p:rA X b u):PS X (.If c a b pos) (tIfS i t u):=by
 intro f s g H D I h;show wpAny_If (ar (o f s g H _ I h) λd s1 hpq=> ?_);let⟨j,l,m⟩:=hpq;cases d with
 |true=>show n f s1 g j D l m|false=>show p f s1 g j D l m
end
abbrev TG:=V->St->Hp->(St->Hp->Prop)->Prop
abbrev Jz:=List V->St->Hp->(St->Hp->Prop)->Prop
def PG(X:Cx)(a:Expr)(t:TG):Prop :=
 ∀(b:List (Addr×Obj))(s:Shared)(d:St)(H:Hp)(v:V)(u:Value)(Q:St->Hp->Prop),Inv X b d H s->RelV v u->t v d H Q -> wpAny (model X.prog X.w) X.A (assign a X.env u) (λ_ s' =>∃c e,Inv X b c e s' /\Q c e) X.xe s
def Mm(X:Cx)(f:List Expr)(t:Jz):Prop :=
 ∀(a:List (Addr×Obj))(s:Shared)(c:St)(H:Hp)(d:List V)(us:List Value)(Q:St->Hp->Prop),Inv X a c H s->aQ d us->t d c H Q -> wpAny (model X.prog X.w) X.A (assignInOrder ((assignEach f X.env).map (·.2)) us) (λ_ s' =>∃b e,Inv X a b e s' /\Q b e) X.xe s
abbrev Jy:=V->V->V->Hp->(Hp->Prop)->Prop
def Ml(X:Cx)(t:Jy):Prop :=
 ∀(a:List (Addr×Obj))(s:Shared)(c:St)(H:Hp)(o i v:V)(b d u:Value)(Q:Hp->Prop),Inv X a c H s->RelV o b->RelV i d->RelV v u->t o i v H Q -> wpAny (model X.prog X.w) X.A (setItem b d u) (λ_ s' =>∃e,Inv X a c e s' /\Q e) X.xe s
abbrev TIp:=V->V->Hp->VK->Prop
def PIp(X:Cx)(c:Operator)(t:TIp):Prop :=
 ∀(a:List (Addr×Obj))(s:Shared)(b:St)(H:Hp)(x y:V)(v u:Value)(Q:VK),Inv X a b H s->RelV x v->RelV y u->t x y H Q -> wpAny (model X.prog X.w) X.A (inplaceOp c v u) (EP X a b Q) X.xe s
section
variable{X:Cx}{pos:Pos}
def mU(i:Nat):TG:=λv σ H Q=>Q (σ.set i (some v)) H
def ak{i:Nat}(c:X.N.Nodup)(b:X.N[i]? =some x)(e:Loc X.env.scope x)(d:X.fn x=true\/X.env.scope.names.lookup x=some .local:=by first|exact .inl rfl|exact .inr rfl|assumption):PG X (.Name x pos) (mU i):=by intro a s f H v u Q I r h;show wpAny_assign_Name (gE I c b e r (λs' I' =>(Y_22 _ H I' h)) d)
def gNil:Jz:=λvs σ H Q=>vs=[]/\Q σ H
def Lm(t:TG)(u:Jz):Jz:=λvs σ H Q=>∃v r,vs=v::r/\t v σ H λσ' H' =>u r σ' H' Q
def jg:Mm X [] gNil:=by intro a s b H c us Q I r h;let⟨e,h⟩:=h;subst e;ext r;show assignInOrder_nil (Y_22 b H I h)
def cB{t:TG}(j:PG X e t)(o:Mm X b u)
  (d:(assignEach (e::b) X.env).map (·.2)=assign e X.env::(assignEach b X.env).map (·.2):=by rfl):Mm X (e::b) (Lm t u):=by
 intro a s f H q us Q I r h;let⟨v,p,n,h⟩:=h;subst n;cases r with
 |cons r l =>rw[d];show assignInOrder_cons (ar (j a s f H _ _ _ I r h) λ_ s1 hpq=> ?_);let⟨c,g,i,m⟩:=hpq;show o a s1 c g _ _ Q i l m
def gTup(K:W.Frag)(n:Nat)(t:Jz):TG:=λv σ H Q=>∃a b,v=.ref a/\dg K H a b/\b.length=n/\t b σ H Q
def mE{k:Nat}{t:Jz}(m:X.calm=true)(h:Mm X d t)
  (q:(assignEach d X.env).length=n:=by rfl) (g:(assignEach d X.env).findIdx? (·.1)=none:=by rfl):PG X (.Tuple d k pos) (gTup X.K n t):=by
 intro c s i H v u Q I r f;let⟨a,y,A,p,l,f⟩:=f;subst A;ext r;let⟨z,j,w,C⟩:=I.tuple p;show assign_Tuple_tuple (I.ok.hd m) w (by simp[q,<-l,j.length]) g λh' hx=> ?_;show h c _ i H y _ Q (I.kept (t' :=s.toks) λb o e=>hx b o (Na (NQ e)) e) (by simpa using j) f
def gSub(b a:TE)(t:Jy):TG:=λv σ H Q=>b σ H λo H1=>a σ H1 λi H2=>t o i v H2 λH3=>Q σ H3
def BS{o:Expr}{t:Jy}(p:PE X o c)(z:PE X i d)(e:Ml X t)
  (D:∀v,assign (.Subscript o i pos) X.env v=(do
   let ov<-holding [v] (eval o X.env)
   let iv<-holding [v,ov] (eval i X.env)
   standAt pos
   holding [v,ov,iv] (setItem ov iv v)
   release [v,ov,iv] []):=by intro _;rfl):PG X (.Subscript o i pos) (gSub c d t):=by
 intro a s b H v u Q I r h;show M1 (OP (ar (p a s b H _ I h) λov s1 hpq=> ?_));let⟨x,j,q,l,C⟩:=hpq;show M1 (OP (ar (z a s1 b j _ q C) λiv s2 hpq=> ?_));let⟨y,g,n,w,f⟩:=hpq;show M1 (Qb (M1 (OP (ar (e a s2 b g x y v ov iv u _ n l w r f) λ_ s3 hpq=> ?_))));let⟨A,m,E⟩:=hpq;show wpAny_release (Y_22 b A m E)
def HQ(a:TE)(g:TG):TS:=λD σ H=>a σ H λx H1=>g x σ H1 D.nx
def BM(l:PE X e d)(m:PG X b g)(f:swapsWithSole [b] e pos.line X.env=pure false:=by rfl)(i:swappedStores [b] e X.env=pure none:=by rfl)
  (j:(assignEach [b] X.env).map (·.2)=[assign b X.env]:=by rfl):PS X (.Assign [b] e pos) (HQ d g):=by
 intro a s c H D I h;show wpAny_Assign_stores (ar (l a s c H _ I h) λv s1 ⟨x,H1,I1,r1,q1⟩=> ?_) f i;rw[j];show ar (m a s1 c H1 x v _ I1 r1 q1) λ_ s2 q=>q
def au{i:Nat}(j:X.N.Nodup)(g:X.N[i]? =some x)(n:Loc X.env.scope x)(l:PE X e c)(f:swapsWith e (some (.Name x a)) pos.line X.env=pure false:=by rfl)(m:X.fn x=true\/X.env.scope.names.lookup x=some .local:=by first|exact .inl rfl|exact .inr rfl|assumption) :
  PS X (.Assign [.Name x a] e pos) (HQ c (mU i)):=by
 intro b s d H D I h;show wpAny_Assign_Name (ar (l b s d H _ I h) λv s1 ⟨y,H1,I1,r1,q1⟩=> ?_) f;show gE I1 j g n r1 (λs2 I2=>⟨_,H1,I2,q1⟩) m
def tAug(i:Nat)(a:TE)(b:TIp):TS:=λD σ H=>∃x,σ[i]? =some (some x)/\a σ H λy H1=>b x y H1 λz H2=>D.nx (σ.set i (some z)) H2
def Ho{o:TE}(W:X.N.Nodup)(p:X.N[i]? =some x)(j:Loc X.env.scope x)(Y:PE X e o)(R:PIp X g z)(Z:X.fn x=true\/X.env.scope.names.lookup x=some .local:=by first|exact .inl rfl|exact .inr rfl|assumption) :
  PS X (.AugAssign (.Name x f) g e pos) (tAug i o z):=by
 intro a s n H D I h;let⟨v,e1,h⟩:=h;let⟨m,O,E⟩:=I.loc;let L:KS X.env.scope x:=by rcases j with k|k;show .inl k;show .inr (.inl k)
 let⟨u,r,l⟩:=E i x v p e1 L;show wpAny_AugAssign_Name ?_;let q:wpAny (model X.prog X.w) X.A (eval e X.env) (λw s₂=>wpAny (model X.prog X.w) X.A (inplaceOp g u w) (λr s₃=>wpAny (model X.prog X.w) X.A (storeName X.env x r) (λ_=>SP X a D .next) X.xe s₃) X.xe s₂) X.xe s:=by show ar (Y a s n H _ I h) λw s1 hpq=> ?_;let⟨y,M,T,Q,q1⟩:=hpq;show ar (R a s1 n M v y u w _ T r Q q1) λz s2 hpq=> ?_;let⟨zv,K,S,U,C⟩:=hpq;show gE S W p j U (λs3 I3=>⟨_,K,I3,C⟩) Z
 rcases l with⟨b,hm⟩|⟨b,c,J,d⟩
 ·show wpAny_loadName_local I.ok.kind b O hm q
 ·rcases b with b|b
  ·show wpAny_loadName_cell I.ok.kind b J d q
  ·rcases j with k|k
   ·have:X.env.scope.names.lookup x=some .free:=b
    rw[k]at this;ext this
   ·have:X.env.scope.names.lookup x=some .free:=b
    rw[k]at this;ext this
def ipI(f:Int->Int->Int):TIp:=λx y H Q=>∃i j,x=.int i/\y=.int j/\Q (.int (f i j)) H
def Iu:PIp X .Add (ipI λi j=>i+j):=by intro a s f H x y v u Q I b c h;let⟨i,j,e,d,q⟩:=h;subst e;subst d;let⟨t,rfl⟩:=b;let⟨g,rfl⟩:=c;show iadd_int ⟨.int _,H,I.tok _,⟨_,rfl⟩,q⟩
def Ir:PIp X .Sub (ipI λi j=>i-j):=by intro a s f H x y v u Q I b c h;let⟨i,j,e,d,q⟩:=h;subst e;subst d;let⟨t,rfl⟩:=b;let⟨g,rfl⟩:=c;show isub_int ⟨.int _,H,I.tok _,⟨_,rfl⟩,q⟩
def HH(c:TT)(g:TS):TS:=λD a H=>∃W:Nat->St->Hp->Prop,(∃m,W m a H)/\∀m a H,W m a H -> c a H λb H1=>if b=true then∃N:St->Hp->Prop,(∀d e,N d e ->∃f,f <m/\W f d e)/\g {D with nx:=N,ct:=N,bk:=D.nx} a H1 else D.nx a H1
def sd{body:List Stmt}(y:PassesOwn (model X.prog X.w) X.A X.env X.xe)(M:PT X c E)(Q:rA X body J):PS X (.While c body [] pos) (HH E J):=by
 intro a s L H D I h;obtain⟨W,⟨U,O⟩,j⟩:=h;show wpAny_While (codeAny_whileLoop (λn s' =>∃g K,Inv X a g K s' /\W n g K) ?_ U (Y_22 L H I O));intro n T zm;let⟨e,x,R,S⟩:=zm;show PX y (ar (M a T e x _ R (j n e x S)) λb s2 hpq=> ?_);let⟨u,z,l⟩:=hpq;cases b with
 |true =>
  let⟨N,C,l⟩:=l;show PX y (ar (Q a s2 e u _ z l) λf s3 q3=> ?_);cases f with
  |next =>let⟨d,i,o,r⟩:=q3;let⟨p,q,m⟩:=C d i r;show Y_12 p q (Y_22 d i o m)
  |cont =>let⟨d,i,o,r⟩:=q3;let⟨p,q,m⟩:=C d i r;show Y_12 p q (Y_22 d i o m)
  |brk=>show q3|ret v=>show q3
 |false =>show QQ ⟨e,u,z,l⟩
end
structure It where
 go:Nat->Hp->Prop
 yld:Nat->Hp->V->Hp->Prop
 stop:Nat->Hp->Prop
def kr(X:Cx)(a:List (Addr×Obj))(H:Hp)(b:Addr):Prop :=
 H b=none/\b≠X.env.locals/\b∉X.fs/\(b∈X.ex\/X.s₀.heap.objs.size<=b)/\(∀x c,X.env.cells.lookup x=some c->c≠b)/\∀p∈X.pn++a,p.1≠b
def Inv.fpOk{s:Shared}(I:Inv X a g H s)(d:s.heap.objs.size<=b)(h:f b=none):kr X a f b:=by
 show⟨h,Oi (Nq I.lt d),I.nofs d,.inr (Nd I.sz d),λx c e z=> ?_,λp hp z=> ?_⟩
 ·let⟨v,q⟩:=I.cell x c e
  show absurd (Nq q.lt (by rwa[z])) (On _)
 ·show absurd (Nq (NQ (I.pin p hp).1) (by rwa[z])) (On _)
structure uh(P:Program)(w:World)(K:W.Frag)(tg:Expr)(J:It)(fp:List Addr)(it:Addr)(tn:Nat->Heap->Prop):Prop where
 mem:it∈fp
 obj:∀i h,tn i h->∀b∈fp,∃o,h.get? b=some o/\∀v,o.data≠.cell v
 keep:∀i h h',tn i h->(∀b∈fp,∀o,h.get? b=some o->h'.get? b=some o)->tn i h'
 item:∀(X:Cx),X.prog=P->X.w=w->X.K=K->X.calm=true->∀(i:Nat)(pins:List (Addr×Obj))(s:Shared)(σ:St)(H:Hp)(E:Value->Shared->Prop),Inv X pins σ H s->(∀b∈fp,kr X pins H b)->tn i s.heap->J.go i H ->
  wpAny (model P w) X.A (pyNext (.ref it)) (fun r s1=>∃u,r=some u /\
   wpAny (model P w) X.A (letOwnedTupleGo tg (.ref it) u) (fun _ s2=>∃x H',Inv X pins σ H' s2/\RelV x u/\J.yld i H x H' /\tn (i+1) s2.heap/\∀b∈fp,H' b=none) E s1) E s
 done:∀(X:Cx),X.prog=P->X.w=w->X.K=K->X.calm=true->∀(i:Nat)(pins:List (Addr×Obj))(s:Shared)(σ:St)(H:Hp)(E:Value->Shared->Prop),Inv X pins σ H s->(∀b∈fp,kr X pins H b)->tn i s.heap->J.stop i H ->
  wpAny (model P w) X.A (pyNext (.ref it)) (fun r s1=>r=none/\Inv X pins σ H s1) E s
 self:∀(A:Around)(i:Nat)(s:Shared)(Q:Value->Shared->Prop)(E:Value->Shared->Prop),tn i s.heap->Q (.ref it) s->wpAny (model P w) A (pyIter (.ref it)) Q E s
abbrev TI:=St->Hp->(It->Hp->Prop)->Prop
def PIE(X:Cx)(a:List (Addr×Obj))(i:St)(j:Expr)(R:It->Hp->Prop)(d:Value)(g:Shared):Prop :=
 ∃(h:Addr)(e:List Addr)(f:Nat->Heap->Prop)(J:It)(c :Hp),d=.ref h/\Inv X a i c g/\uh X.prog X.w X.K j J e h f/\f 0 g.heap/\(∀b∈e,kr X a c b)/\R J c
def PI(X:Cx)(e b:Expr)(d:TI):Prop :=
 ∀(a:List (Addr×Obj))(s:Shared)(c:St)(H:Hp)(R:It->Hp->Prop),Inv X a c H s->d c H R -> wpAny (model X.prog X.w) X.A (eval b X.env) (λv s1=>wpAny (model X.prog X.w) X.A (pyIter v) (PIE X a c e R) X.xe s1) X.xe s
def uA{A:Around}{s:Shared}{o:Obj}{n:String}(ho:s.heap.get? it=some o)(hc:o.cls=.type n)(hd:o.data=.fields vs)
    (hn:["enumerate","zip","dict_itemiterator","dict_reverseitemiterator","odict_iterator","itertools.zip_longest","itertools.pairwise"].contains n=false) (hQ:Q () s):wpAny M A (letOwnedTupleGo tg (.ref it) u) Q E s:=by
  ext tg<;>first
    | show NK hQ
    | (ext u<;>first
        | show NK hQ
        | (show M1 (wpAny_load ho ?_)
           rw[hc,hd];change wpAny M A (if(["enumerate","zip","dict_itemiterator","dict_reverseitemiterator","odict_iterator","itertools.zip_longest","itertools.pairwise"].contains n&&vs[0]? ==some (rawInt _))=true then _ else _) Q E s;rw[NJ (by intro h;rw[hn,QP]at h;ext h)];show NK hQ))
def KJ(K:W.Frag)(a:Addr):It :=
 ⟨λi H=>∃b x,bG K H a b/\b[i]? =some x,λi H x H' =>H' =H/\∀b,bG K H a b->b[i]? =some x,λi H=>∃b,bG K H a b/\b.length<=i⟩
def KI(K:W.Frag)(a:Addr):It :=
 ⟨λi H=>∃b x,dg K H a b/\b[i]? =some x,λi H x H' =>H' =H/\∀b,dg K H a b->b[i]? =some x,λi H=>∃b,dg K H a b/\b.length<=i⟩
def Gm(a:Int)(n:Nat):It:=⟨λi _=>i<n,λi H x H' =>H' =H/\x=.int (a+i),λi _=>n<=i⟩
def yP{P:Program}{w:World}{K:W.Frag}{R:Expr}(a j:Addr):uh P w K R (KJ K a) [j] j (λi h=>h.IsListIter j a i) where
 mem:=by simp
 obj:=λi h f b hb=>by
  let e:b=j:=by simpa using hb
  subst e;let⟨o,e,c,d⟩:=f;exists o,e,λv z=>by rw[d]at z;ext z
 keep:=λi h h' f k=>f.at λo e=>k j 03 o e
 item:=by intro X M n q Q i g s O H E I m f y;subst M n q;let⟨T,x,l,A⟩:=y;let⟨J,L,p,S⟩:=I.list l;let⟨u,Z,Y⟩:=L.get A;let⟨N,v,f2,C,D,r⟩:=m j 03;show wpAny_pyNext_list_item f p.isList (by simpa using Z) λh' st' sb=> ?_;let⟨o,e,c,d⟩:=id st';exists u,rfl,uA e c d 02 (Y_25 x H (I.turned (t' :=s.toks) (λb o hb e=>(sb.2 b hb).trans e) N v C D r) Y ⟨rfl,λys hy=>by rwa[I.list_inj hy l]⟩ st' (λb hb=>(m b hb).1))
 done:=by intro X M n q Q i g s O H E I m f y;subst M n q;let⟨T,l,A⟩:=y;let⟨J,L,p,S⟩:=I.list l;let⟨N,v,f2,C,D,r⟩:=m j 03;let hl:=L.length;show wpAny_pyNext_list_end (I.ok.hd Q) f p.isList 000 λh' eb=>⟨rfl,I.turned (λb o hb e=>eb b o hb e) N v C D r⟩
 self:=λ_ _ _ _ _ f h=>wpAny_pyIter_listiter f h
def uz{P:Program}{w:World}{K:W.Frag}{R:Expr}(a l:Addr):uh P w K R (KI K a) [l] l (λi h=>h.IsTupleIter l a i) where
 mem:=by simp
 obj:=λi h f b hb=>by
  let e:b=l:=by simpa using hb
  subst e;let⟨o,e,c,d⟩:=f;exists o,e,λv z=>by rw[d]at z;ext z
 keep:=λi h h' f k=>f.at λo e=>k l 03 o e
 item:=by intro X M q r Q i g s O H E I n f A;subst M q r;let⟨T,x,m,C⟩:=A;let⟨j,L,p,S⟩:=I.tuple m;let⟨u,Z,Y⟩:=L.get C;let⟨N,y,f2,D,J,v⟩:=n l 03;show wpAny_pyNext_tuple_item f (show s.heap.IsTuple a j.toArray from p) (by simpa using Z) λh' st' sb=> ?_;let⟨o,e,c,d⟩:=id st';exists u,rfl,uA e c d 02 (Y_25 x H (I.turned (t' :=s.toks) (λb o hb e=>(sb.2 b hb).trans e) N y D J v) Y ⟨rfl,λys hy=>by rwa[I.tuple_inj hy m]⟩ st' (λb hb=>(n b hb).1))
 done:=by intro X M q r Q i g s O H E I n f A;subst M q r;let⟨T,m,C⟩:=A;let⟨j,L,p,S⟩:=I.tuple m;let⟨N,y,f2,D,J,v⟩:=n l 03;let hl:=L.length;show wpAny_pyNext_tuple_end (I.ok.hd Q) f (show s.heap.IsTuple a j.toArray from p) 000 λh' eb=>⟨rfl,I.turned (λb o hb e=>eb b o hb e) N y D J v⟩
 self:=λ_ _ _ _ _ f h=>wpAny_pyIter_tupleiter f h
def u0{P:Program}{w:World}{K:PySem.W.Frag}{D:Expr}(d:Addr)(f:Int)(n:Nat):uh P w K D (Gm f n) [d] d (λi h=>IsRangeIter h d (f+(i:Nat)*1) ((n:Int)-(i:Nat)) 1) where
 mem:=by simp
 obj:=λi h a b hb=>by
  let e:b=d:=by simpa using hb
  subst e;exists _,a,λv z=>by let J :=z;ext J
 keep:=λi h h' a k=>k d 03 _ a
 item:=by intro X y j l p i c s C H E I g a r;subst y j l;let⟨A,q,M,u,x,m⟩:=g d 03;show (Walks.range (prog:=X.prog) (w:=X.w) (I.ok.hd p) d f 1 n).item i s _ _ r a λv h' tk hv st' kk=> ?_;let⟨t,rfl⟩:=hv;let L:Inv X c C H {s with heap:=h',toks:=tk}:=I.turned (λb o hb e=>kk b o (by simpa using hb) e) A q u x m;exists _,rfl,uA st' rfl rfl 02 (Y_25 (.int (f+i)) H L ⟨t,?_⟩ ⟨rfl,rfl⟩ st' (λb hb=>(g b hb).1));rw[Int.mul_one]
 done:=by intro X y j l p i c s C H E I g a r;let⟨A,q,M,u,x,m⟩:=g d 03;show wpAny_pyNext_range_end (I.ok.hd p) a (by have:n<=i:=r;lia) λh' eb=>⟨rfl,I.turned (λb o hb e=>eb b o hb e) A q u x m⟩
 self:=λ_ _ _ _ _ a h=>wpAny_pyIter_rangeiter a h
section
variable{X:Cx}{tg:Expr}
def Lk(K:W.Frag)(c:TE):TI:=λσ H R=>c σ H λx H1=>∃a,x=.ref a/\(∃b,bG K H1 a b)/\R (KJ K a) H1
def iTup(K:W.Frag)(c:TE):TI:=λσ H R=>c σ H λx H1=>∃a,x=.ref a/\(∃b,dg K H1 a b)/\R (KI K a) H1
def gu(i:PE X l f):PI X tg l (Lk X.K f):=by
 intro c s g H R I h;show ar (i c s g H _ I h) λv s1 hpq=> ?_;obtain⟨x,m,d,n,a,e,⟨w,j⟩,q⟩:=hpq;subst e;ext n;let⟨r,y,p,v⟩:=d.list j;show QY p.isList ?_;exists s1.heap.objs.size,[s1.heap.objs.size],_,_,m,rfl,d.kept λb o e=>M3 _ e,yP a _,⟨_,NR _ rfl,rfl,rfl⟩,λb hb=> ?_,q;let e:b=s1.heap.objs.size:=by simpa using hb
 subst e;show d.fpOk (NB _) (d.hok.fresh (NB _))
def vO(j:PE X l g):PI X tg l (iTup X.K g):=by
 intro c s i H R I h;show ar (j c s i H _ I h) λv s1 hpq=> ?_;obtain⟨x,n,d,r,a,e,⟨w,m⟩,q⟩:=hpq;subst e;ext r;let⟨f,y,p,v⟩:=d.tuple m;show QW (show s1.heap.IsTuple a f.toArray from p) ?_;exists s1.heap.objs.size,[s1.heap.objs.size],_,_,n,rfl,d.kept λb o e=>M3 _ e,uz a _,⟨_,NR _ rfl,rfl,rfl⟩,λb hb=> ?_,q;let e:b=s1.heap.objs.size:=by simpa using hb
 subst e;show d.fpOk (NB _) (d.hok.fresh (NB _))
def sS{s:Shared}{t:Tok}(I:Inv X d f H s)(i: -(2^62)<=a)(p:a<2^62)(l: -(2^62)<=c)(j:c<2^62)
  (q:R (Gm a (c-a).toNat) H):wpAny (model X.prog X.w) X.A (pyIter (.ref s.heap.objs.size)) (PIE X d f tg R) E {s with heap:=s.heap.push {cls:=.type "range",data:=.fields #[.int a t,.int c u,.int 1 v]},toks:=h}:=by
 show wpAny_pyIter_range (IsRange.new ..) (small_one i p l j) ?_;let g:Inv X d f H {s with heap:=s.heap.push {cls:=.type "range",data:=.fields #[.int a t,.int c u,.int 1 v]},toks:=h}:=I.kept λb o e=>M3 _ e
 show⟨(s.heap.push {cls:=.type "range",data:=.fields #[.int a t,.int c u,.int 1 v]}).objs.size,[(s.heap.push {cls:=.type "range",data:=.fields #[.int a t,.int c u,.int 1 v]}).objs.size],_,_,H,rfl,g.kept λb o e=>M3 _ e,u0 _ a (c-a).toNat,?_,λb hb=> ?_,q⟩
 ·let n:a+((0:Nat):Int)*1=a:=by simp
  let m:(((c-a).toNat:Nat):Int)-((0:Nat):Int)=Builtin.Range.rangeSize a c 1:=by rw[rangeSize_one];split<;>lia
  rw[n,m];show NR _ rfl
 ·let e:b=(s.heap.push {cls:=.type "range",data:=.fields #[.int a t,.int c u,.int 1 v]}).objs.size:=by simpa using hb
  subst e;show g.fpOk (NB _) (g.hok.fresh (NB _))
def Lj(a:TA):TI:=λσ H R=>a σ H λvs H1=>∃j:Int,vs=[.int j]/\ -(2^62)<=j/\j<2^62/\R (Gm 0 j.toNat) H1
def Li(a:TA):TI:=λσ H R=>a σ H λvs H1=>∃i j:Int,vs=[.int i,.int j]/\(-(2^62)<=i/\i<2^62/\ -(2^62)<=j/\j<2^62)/\R (Gm i (j-i).toNat) H1
def cP(l:Gl X "range")(n:X.mg "range"=none)(o:PA X [a] d)(f:starEach [a] X.env=[(false,eval a X.env)]:=by rfl):PI X tg (.Call (.Name "range" p) [a] [] pos) (Lj d):=by
 intro b s i H R I h;show Call_ (fP I l n boot_range (ON (ar (o pos b s i H _ I h) λus s1 ⟨vs,H1,I1,r1,c⟩=> ?_) f rfl));let⟨j,e,c,g,q⟩:=c;subst e;cases r1 with
 |cons r m =>ext m;let⟨t,rfl⟩:=r;show call_range_1 (sS I1 00 00 c g (by simpa using q))
def yu(v:Gl X "range")(x:X.mg "range"=none)(y:PA X [a,b] l)(m:starEach [a,b] X.env=[(false,eval a X.env),(false,eval b X.env)]:=by rfl)(d:starEach [b] X.env=[(false,eval b X.env)]:=by rfl) :
  PI X tg (.Call (.Name "range" p) [a,b] [] pos) (Li l):=by
 intro c s o H R I h;show Call_ (fP I v x boot_range (ON (ar (y pos c s o H _ I h) λus s1 ⟨vs,H1,I1,r1,g⟩=> ?_) (by rw[m,d]) (by rw[d];rfl)));obtain⟨i,j,e,⟨g,n,z,w⟩,q⟩:=g;subst e;cases r1 with
 |cons r f =>
  cases f with
  |cons u f =>ext f;let⟨t,rfl⟩:=r;let⟨A,rfl⟩:=u;show call_range_2 (sS I1 g n z w q)
def tFor(e:TI)(g:TG)(f:TS):TS:=λD a H=>e a H λJ H1=>∃W:Nat->Nat->St->Hp->Prop,(∃m,W 0 m a H1)/\∀i m a H,W i m a H -> (J.stop i H/\D.nx a H)\/(J.go i H/\∃N:St->Hp->Prop,(∀b c,N b c ->∃d,d <m/\W (i+1) d b c)/\∀x c,J.yld i H x c ->g x a c λσ2 H2=>f {D with nx:=N,ct:=N,bk:=D.nx} σ2 H2)
def mD(a:List Addr)(h:Heap):List (Addr×Obj):=a.filterMap λb=>(h.get? b).map λo=>(b,o)
theorem fO{o:Obj}(c:b∈a)(e:h.get? b=some o):(b,o)∈mD a h:=List.mem_filterMap.mpr (Y_12 b c (by rw[e];rfl))
def yx(f:p∈mD a h):p.1∈a/\h.get? p.1=some p.2:=by
 let⟨b,c,e⟩:=List.mem_filterMap.mp f;cases q:h.get? b with
 |none=>rw[q]at e;ext e|some o =>rw[q]at e;let d :=Nf e;subst d;show⟨c,q⟩
theorem Inv.pinned{s:Shared}(I:Inv X a f H s)(l:∀b∈c,kr X a H b)(m:∀b∈c,∃o,s.heap.get? b=some o/\∀v,o.data≠.cell v):Inv X (a++mD c s.heap) f H s := I.pins_of λp hp=>(Nc.mp hp).elim (λz=>I.pin p (Nr _ z)) λz=>by let⟨g,e⟩:=yx z;let⟨i,j,n,_⟩:=l p.1 g;let⟨o,h,d⟩:=m p.1 g;rw[e]at h;ext h;show⟨e,i,j,n,d⟩
theorem Inv.unpinned{s:Shared}(I:Inv X (a++c) b H s):Inv X a b H s:=I.pins_of λp hp=>I.pin p (Nr _ (Ni _ hp))
def cO{body:List Stmt}(R:PassesOwn (model X.prog X.w) X.A X.env X.xe)(hc:X.calm=true)(hi:PI X tg j wi)(hg:PG X tg g)(z:rA X body tb)
  (hs:∀x,foldedSetIterable j X.env x=pure x:=by intro _;rfl):PS X (.For tg j body [] pos) (tFor wi g tb):=by
 intro c s σ H D I h;show wpAny_For (ar (hi c s σ H _ I h) λv s1 h1=>ar h1 λitv s2 h2=> ?_) hs;obtain⟨it,S,tn,J,H2,e,I2,T,a3,f2,W,⟨m0,w0⟩,Z⟩:=h2;subst e;let y:∀{E :Hp},(∀b∈S,E b=none)->∀b∈S,kr X c E b:=λhn b z=>⟨hn b z,(f2 b z).2⟩;show codeAny_forLoop_any (λn s' =>∃i p E,Inv X c p E s' /\tn i s'.heap/\(∀b∈S,E b=none)/\W i n p E) ?_ m0 (Y_34 0 σ H2 I2 a3 (λb z=>(f2 b z).1) w0);intro n s3 zm;let⟨i,C,H3,I3,U,M,w3⟩:=zm
 rcases Z i n C H3 w3 with⟨Y,qn⟩|⟨go,N,hN,Q⟩
 ·show PX R (ar (T.done X rfl rfl rfl hc i c s3 C H3 X.xe I3 (y M) U Y) λr s4 hpq=> ?_)
  let⟨hr,I4⟩:=hpq;subst hr;show QQ ⟨C,H3,I4,qn⟩
 ·show PX R (ar (T.item X rfl rfl rfl hc i c s3 C H3 X.xe I3 (y M) U go) λr s4 hpq=> ?_)
  let⟨u,hr,h4⟩:=hpq;subst hr;show PX R (ar h4 λ_ s5 hpq=> ?_);let⟨x,H5,I5,r5,y5,L,a2⟩:=hpq;let a0 :=I5.pinned (y a2) (T.obj _ _ L);show PX R (ar (hg _ s5 C H5 x u _ a0 r5 (Q x H5 y5)) λ_ s6 hpq=> ?_);let⟨a1,H6,I6,q6⟩:=hpq;show PX R (ar (z _ s6 a1 H6 _ I6 q6) λf s7 K=> ?_);let r:∀{a:St}{q:Hp},Inv X (c++mD S s5.heap) a q s7->N a q->∃m,m<n/\∃i p E,Inv X c p E s7/\tn i s7.heap/\(∀b∈S,E b=none)/\W i m p E :=λ{a q} l O=>by let⟨m',hm,w7⟩:=hN a q O;show Y_12 m' hm (Y_34 (i+1) a q l.unpinned (T.keep _ _ _ L λb z o e=>(l.pin (b,o) (Nr _ (Nr _ (fO z e)))).1) (λb z=> ?_) w7);let⟨o,e,d⟩:=T.obj _ _ L b z;show(l.pin (b,o) (Nr _ (Nr _ (fO z e)))).2.1
  cases f with
  |next=>let⟨a,q,l,O⟩:=K;show r l O
  |cont=>let⟨a,q,l,O⟩:=K;show r l O
  |brk=>let⟨a,q,l,K⟩:=K;exists a,q,l.unpinned,K
  |ret v=>let⟨x7,a,q,l,r7,K⟩:=K;exists x7,a,q,l.unpinned,r7,K
end
def uF{K:PySem.W.Frag}{a:Addr}{xs:List V}{g:TG}{l:TS}{D:dX}{b:St}{H:Hp}(c:Nat->St->Hp->Prop)(u:c 0 b H)(o:∀i b H,i<=xs.length->c i b H->bG K H a xs)
  (n:∀i x b H,xs[i]? =some x->c i b H->g x b H λσ2 H2=>l {D with nx:=c (i+1),ct:=c (i+1),bk:=D.nx} σ2 H2) (r:∀b H,c xs.length b H->D.nx b H) :
  ∃W:Nat->Nat->St->Hp->Prop,(∃m,W 0 m b H)/\∀i m b H,W i m b H -> ((KJ K a).stop i H/\D.nx b H)\/((KJ K a).go i H/\∃N:St->Hp->Prop,(∀f d,N f d ->∃j,j <m/\W (i+1) j f d)/\∀x d,(KJ K a).yld i H x d ->g x b d λσ2 H2=>l {D with nx:=N,ct:=N,bk:=D.nx} σ2 H2):=by
 exists λi m b H=>m=xs.length-i/\i<=xs.length/\c i b H,Y_13 xs.length 03 (No _) u,?_;intro i m b H zm;let⟨rfl,s,p⟩:=zm;let q:=o i b H s p
 by_cases h:i<xs.length
 ·show .inr ⟨⟨xs,xs[i],q,by simp[h]⟩,Y_12 (c (i+1)) (λσ' d p' =>⟨xs.length-(i+1),00,rfl,h,p'⟩) (λx d y=> ?_)⟩
  let⟨e,y⟩:=y;subst e;show n i x b _ (y xs q) p
 ·let e:i=xs.length:=by lia
  subst e;show .inl ⟨⟨xs,q,NB _⟩,r b H p⟩
def FT{K:PySem.W.Frag}{a:Addr}{xs:List V}{g:TG}{l:TS}{D:dX}{b:St}{H:Hp}(c:Nat->St->Hp->Prop)(u:c 0 b H)(o:∀i b H,i<=xs.length->c i b H->dg K H a xs)
  (n:∀i x b H,xs[i]? =some x->c i b H->g x b H λσ2 H2=>l {D with nx:=c (i+1),ct:=c (i+1),bk:=D.nx} σ2 H2) (r:∀b H,c xs.length b H->D.nx b H) :
  ∃W:Nat->Nat->St->Hp->Prop,(∃m,W 0 m b H)/\∀i m b H,W i m b H -> ((KI K a).stop i H/\D.nx b H)\/((KI K a).go i H/\∃N:St->Hp->Prop,(∀f d,N f d ->∃j,j <m/\W (i+1) j f d)/\∀x d,(KI K a).yld i H x d ->g x b d λσ2 H2=>l {D with nx:=N,ct:=N,bk:=D.nx} σ2 H2):=by
 exists λi m b H=>m=xs.length-i/\i<=xs.length/\c i b H,Y_13 xs.length 03 (No _) u,?_;intro i m b H zm;let⟨rfl,s,p⟩:=zm;let q:=o i b H s p
 by_cases h:i<xs.length
 ·show .inr ⟨⟨xs,xs[i],q,by simp[h]⟩,Y_12 (c (i+1)) (λσ' d p' =>⟨xs.length-(i+1),00,rfl,h,p'⟩) (λx d y=> ?_)⟩
  let⟨e,y⟩:=y;subst e;show n i x b _ (y xs q) p
 ·let e:i=xs.length:=by lia
  subst e;show .inl ⟨⟨xs,q,NB _⟩,r b H p⟩
def fC{lo:Int}{n:Nat}{g:TG}{j:TS}{D:dX}{a:St}{H:Hp}(b:Nat->St->Hp->Prop)(q:b 0 a H)
  (l:∀i a H,i<n->b i a H->g (.int (lo+i)) a H λσ2 H2=>j {D with nx:=b (i+1),ct:=b (i+1),bk:=D.nx} σ2 H2) (o:∀a H,b n a H->D.nx a H) :
  ∃W:Nat->Nat->St->Hp->Prop,(∃m,W 0 m a H)/\∀i m a H,W i m a H -> ((Gm lo n).stop i H/\D.nx a H)\/((Gm lo n).go i H/\∃N:St->Hp->Prop,(∀f c,N f c ->∃h,h <m/\W (i+1) h f c)/\∀x c,(Gm lo n).yld i H x c ->g x a c λσ2 H2=>j {D with nx:=N,ct:=N,bk:=D.nx} σ2 H2):=by
 exists λi m a H=>m=n-i/\i<=n/\b i a H,Y_13 n 03 (No _) q,?_;intro i m a H zm;let⟨rfl,r,p⟩:=zm
 by_cases d:i<n
 ·show .inr ⟨d,Y_12 (b (i+1)) (λσ' c p' =>⟨n-(i+1),00,rfl,d,p'⟩) (λx c y=> ?_)⟩
  let⟨e,y⟩:=y;subst e y;show l i a _ d p
 ·let e:i=n:=by lia
  subst e;show .inl ⟨NB _,o a H p⟩
abbrev R2:=V->V->Hp->VK->Prop
def fH(X:Cx)(f:Value->Value->Sem Value)(r:R2):Prop :=
 ∀(a:List (Addr×Obj))(s:Shared)(b:St)(H:Hp)(x y:V)(v u:Value)(Q:VK),Inv X a b H s->RelV x v->RelV y u->r x y H Q -> wpAny (model X.prog X.w) X.A (f v u) (EP X a b Q) X.xe s
def UnR(X:Cx)(f:Value->Sem Value)(r:V->Hp->VK->Prop):Prop :=
 ∀(a:List (Addr×Obj))(s:Shared)(b:St)(H:Hp)(x:V)(v:Value)(Q:VK),Inv X a b H s->RelV x v->r x H Q -> wpAny (model X.prog X.w) X.A (f v) (EP X a b Q) X.xe s
def bQ(X:Cx)(f:Value)(r:List V->Hp->VK->Prop):Prop :=
 ∀(a:List (Addr×Obj))(s:Shared)(c:St)(H:Hp)(b:List V)(us:List Value)(Q:VK),Inv X a c H s->aQ b us->r b H Q -> wpAny (model X.prog X.w) X.A (call f us) (EP X a c Q) X.xe s
def TruR(X:Cx)(r:V->Hp->(Bool->Hp->Prop)->Prop):Prop :=
 ∀(a:List (Addr×Obj))(s:Shared)(b:St)(H:Hp)(x:V)(v:Value)(Q:Bool->Hp->Prop),Inv X a b H s->RelV x v->r x H Q -> wpAny (model X.prog X.w) X.A (truthy v) (TP X a b Q) X.xe s
def tOp(r:R2)(a b:TE):TE:=λσ H Q=>a σ H λx H1=>b σ H1 λy H2=>r x y H2 Q
def tUn(r:V->Hp->VK->Prop)(a:TE):TE:=λσ H Q=>a σ H λx H1=>r x H1 Q
def rI(C:Int->Int->Prop)(g:Int->Int->V):R2:=λx y H Q=>∃i j,x=.int i/\y=.int j/\C i j/\Q (g i j) H
def BD(g:Int->Int->V):R2:=λx y H Q=>∃i j,x=.int i/\y=.int j/\Q (g i j) H
def rU(g:Int->V):V->Hp->VK->Prop:=λx H Q=>∃i,x=.int i/\Q (g i) H
section
variable{X:Cx}{a b c:Expr}{ta tb tc:TE}{pos:Pos}
def Jl(C:PE X a ta)(n:PE X b tb){d:List (Addr×Obj)}{s:Shared}{e:St}{H:Hp}{R:V->V->Hp->Prop}(I:Inv X d e H s)
  (h:ta e H λx j=>tb e j λy g=>R x y g) {Q:Value->Shared->Prop} {f:Value->Value->Sem Value}
  (r:∀v u i x y g,Inv X d e g i->RelV x v->RelV y u->R x y g->wpAny (model X.prog X.w) X.A (f v u) Q X.xe i) :
  wpAny (model X.prog X.w) X.A (eval a X.env) (λv s₁=>wpAny (model X.prog X.w) X.A (eval b X.env) (λu s₂=>wpAny (model X.prog X.w) X.A (f v u) Q X.xe s₂) X.xe s₁) X.xe s:=by
 show ar (C d s e H _ I h) λv s1 hpq=> ?_;let⟨x,j,p,m,z⟩:=hpq;show ar (n d s1 e j _ p z) λu i hpq=> ?_;let⟨y,g,o,q,l⟩:=hpq;show r v u i x y g o m q l
def bS(j:fH X (binaryOp e) r)(g:PE X a ta)(i:PE X b tb):PE X (.BinOp a e b pos) (tOp r ta tb):=by intro d s f H Q I h;show wpAny_BinOp (Jl g i I h λv u s2 x y H2 I2 rx ry q=>j d s2 f H2 x y v u Q I2 rx ry q)
def BU(i:UnR X (unaryOp f) r)(g:PE X a ta):PE X (.UnaryOp f a pos) (tUn r ta):=by intro d s e H Q I h;show UnaryOp_ (ar (g d s e H _ I h) λv s1 ⟨x,H1,I1,r1,q1⟩=>i d s1 e H1 x v Q I1 r1 q1)
def opI{g:Int->Int->Int}
  (d:∀(i j:Int)(t u:Tok)(s:Shared)(Q:Value->Shared->Prop)(E:Value->Shared->Prop),C i j->Q (.int (g i j) s.toks) {s with toks:=s.toks+1}->wpAny (model X.prog X.w) X.A (f (.int i t) (.int j u)) Q E s) :
  fH X f (rI C λi j=>.int (g i j)):=by
 intro e s p H x y v u Q I n o h;let⟨i,j,rfl,rfl,l,q⟩:=h;let⟨t,rfl⟩:=n;let⟨m,rfl⟩:=o;show d i j t m s _ _ l ⟨.int (g i j),H,I.tok _,⟨_,rfl⟩,q⟩
def Ef{g:Int->Int->Int}
  (d:∀(i j:Int)(t u:Tok)(s:Shared)(Q:Value->Shared->Prop)(E:Value->Shared->Prop),Q (.int (g i j) s.toks) {s with toks:=s.toks+1}->wpAny (model X.prog X.w) X.A (f (.int i t) (.int j u)) Q E s) :
  fH X f (BD λi j=>.int (g i j)):=by
 intro e s o H x y v u Q I m n h;let⟨i,j,rfl,rfl,q⟩:=h;let⟨t,rfl⟩:=m;let⟨l,rfl⟩:=n;show d i j t l s _ _ ⟨.int (g i j),H,I.tok _,⟨_,rfl⟩,q⟩
def Eg{g:Int->Int->Bool}
  (d:∀(i j:Int)(t u:Tok)(s:Shared)(Q:Value->Shared->Prop)(E:Value->Shared->Prop),Q (.bool (g i j)) s->wpAny (model X.prog X.w) X.A (f (.int i t) (.int j u)) Q E s) :
  fH X f (BD λi j=>.bl (g i j)):=by
 intro e s o H x y v u Q I m n h;let⟨i,j,rfl,rfl,q⟩:=h;let⟨t,rfl⟩:=m;let⟨l,rfl⟩:=n;show d i j t l s _ _ ⟨.bl (g i j),H,I,rfl,q⟩
def KN(i j:Int):Prop:=(-(2^64)<i/\i<2^64)\/(-(2^64)<j/\j<2^64)
def KN.ok(h:KN i j):IntMulOk i j:=by
 rcases h with⟨d,e⟩|⟨d,e⟩
 ·show .of_left (intBits_le_64 d e)
 ·show .of_right (intBits_le_64 d e)
theorem eQ:fH X (binaryOp .Add) (BD λi j=>.int (i+j)):=Ef λ_ _ _ _ _ _ _ q=>add_int q
theorem II:fH X (binaryOp .Sub) (BD λi j=>.int (i-j)):=Ef λ_ _ _ _ _ _ _ q=>sub_int q
theorem IK:fH X (binaryOp .Mult) (rI KN λi j=>.int (i*j)):=opI λ_ _ _ _ _ _ _ hc q=>mul_int q hc.ok
theorem fN:fH X (binaryOp .Mod) (rI (λ_ j=>0<j) λi j=>.int (i%j)):=opI λi j _ _ _ _ _ hc q=>by let d:=hc;show mod_int' 00 (by rwa[Int.fmod_eq_emod_of_nonneg i 00])
theorem IM:fH X (binaryOp .BitAnd) (BD λi j=>.int (Builtin.bitAnd i j)):=Ef λ_ _ _ _ _ _ _ q=>and_int q
theorem GW:fH X (binaryOp .BitOr) (BD λi j=>.int (Builtin.bitOr i j)):=Ef λ_ _ _ _ _ _ _ q=>or_int q
def unI{g:Int->Int}
  (d:∀(i:Int)(t:Tok)(s:Shared)(Q:Value->Shared->Prop)(E:Value->Shared->Prop),Q (.int (g i) s.toks) {s with toks:=s.toks+1}->wpAny (model X.prog X.w) X.A (f (.int i t)) Q E s) :
  UnR X f (rU λi=>.int (g i)):=by
 intro e s l H x v Q I j h;let⟨i,rfl,q⟩:=h;let⟨t,rfl⟩:=j;show d i t s _ _ ⟨.int (g i),H,I.tok _,⟨_,rfl⟩,q⟩
theorem ux:UnR X (unaryOp .USub) (rU λi=>.int (-i)):=unI λ_ _ _ _ _ q=>neg_int q
end
def HV:V->V->Bool
 | .non,.non=>true| .non,.int _=>true| .int _,.non=>true| .non,.bl _=>true| .bl _,.non=>true| .non,.str _=>true| .str _,.non=>true
 | .int _,.int _=>true| .bl _,.bl _=>true| .str _,.str _=>true| .byt _,.byt _=>true
 | .int _,.str _=>true| .str _,.int _=>true| .bl _,.str _=>true| .str _,.bl _=>true
 |_,_=>false
def rEq:R2:=λx y H Q=>HV x y=true/\Q (.bl (decide (x=y))) H
def rNe:R2:=λx y H Q=>HV x y=true/\Q (.bl (!decide (x=y))) H
def xk:decide (V.int i=V.int j)=(i==j):=by rw[OL];simp
def Cq:decide (V.bl i=V.bl j)=(i==j):=by rw[OL];simp
def xj:decide (V.str i=V.str j)=(i==j):=by rw[OL];simp
def xm:decide (V.byt i=V.byt j)=(i.toList==j.toList):=by rw[OL];ext i;ext j;simp
section
variable{X:Cx}{a b c:Expr}{ta tb tc:TE}{pos:Pos}
def ae{s:Shared}{k:Bool}(I:Inv X d f H s)(q:Q (.bl k) H)(e:k=g):EP X d f Q (.bool g) s:=by subst e;exists .bl k,H,I,rfl,q
def tG:fH X (compareOp .Eq) rEq:=by
 intro l s m H x y v u Q I g d h;let⟨f,q⟩:=h;cases x with
 |non =>
  ext g;cases y with
  |non=>ext d;show PySem.EqNone.eq_none_none (ae I q 03)|bl j=>ext d;show PySem.EqNone.eq_none_bool (ae I q 03)|int j=>let⟨e,rfl⟩:=d;show PySem.EqNone.eq_none_int (ae I q 03)
  |str j=>let⟨e,rfl⟩:=d;show PySem.EqNone.eq_none_str (ae I q 03)
  |_=>show absurd (show false=true from f) ND
 |bl i =>
  ext g;cases y with
  |non=>ext d;show PySem.EqNone.eq_bool_none (ae I q 03)|bl j=>ext d;show eq_bool (ae I q Cq)|str j=>let⟨e,rfl⟩:=d;show PySem.EqMixed.eq_bool_str (ae I q 03)
  |_=>show absurd (show false=true from f) ND
 |int i =>
  let⟨t,rfl⟩:=g;cases y with
  |non=>ext d;show PySem.EqNone.eq_int_none (ae I q 03)|int j=>let⟨e,rfl⟩:=d;show eq_int (ae I q xk)
  |str j=>let⟨e,rfl⟩:=d;show PySem.EqMixed.eq_int_str (ae I q 03)
  |_=>show absurd (show false=true from f) ND
 |str i =>
  let⟨t,rfl⟩:=g;cases y with
  |non=>ext d;show PySem.EqNone.eq_str_none (ae I q 03)|bl j=>ext d;show PySem.EqMixed.eq_str_bool (ae I q 03)|int j=>let⟨e,rfl⟩:=d;show PySem.EqMixed.eq_str_int (ae I q 03)
  |str j=>let⟨e,rfl⟩:=d;show eq_str (ae I q xj)
  |_=>show absurd (show false=true from f) ND
 |byt i =>
  let⟨t,rfl⟩:=g;cases y with
  |byt j=>let⟨e,rfl⟩:=d;show W.eq_bytes (ae I q xm)
  |_=>show absurd (show false=true from f) ND
 |_=>ext y<;>show absurd (show false=true from f) ND
def LO:fH X (compareOp .NotEq) rNe:=by
 intro l s m H x y v u Q I g d h;let⟨f,q⟩:=h;cases x with
 |non =>
  ext g;cases y with
  |non=>ext d;show PySem.EqNone.ne_none_none (ae I q 03)|bl j=>ext d;show PySem.EqNone.ne_none_bool (ae I q 03)|int j=>let⟨e,rfl⟩:=d;show PySem.EqNone.ne_none_int (ae I q 03)
  |str j=>let⟨e,rfl⟩:=d;show PySem.EqNone.ne_none_str (ae I q 03)
  |_=>show absurd (show false=true from f) ND
 |bl i =>
  ext g;cases y with
  |non=>ext d;show PySem.EqNone.ne_bool_none (ae I q 03)|bl j=>ext d;show ne_bool (ae I q (N6 not Cq))|str j=>let⟨e,rfl⟩:=d;show PySem.EqMixed.ne_bool_str (ae I q 03)
  |_=>show absurd (show false=true from f) ND
 |int i =>
  let⟨t,rfl⟩:=g;cases y with
  |non=>ext d;show PySem.EqNone.ne_int_none (ae I q 03)|int j=>let⟨e,rfl⟩:=d;show ne_int (ae I q (N6 not xk))
  |str j=>let⟨e,rfl⟩:=d;show PySem.EqMixed.ne_int_str (ae I q 03)
  |_=>show absurd (show false=true from f) ND
 |str i =>
  let⟨t,rfl⟩:=g;cases y with
  |non=>ext d;show PySem.EqNone.ne_str_none (ae I q 03)|bl j=>ext d;show PySem.EqMixed.ne_str_bool (ae I q 03)|int j=>let⟨e,rfl⟩:=d;show PySem.EqMixed.ne_str_int (ae I q 03)
  |str j=>let⟨e,rfl⟩:=d;show ne_str (ae I q (N6 not xj))
  |_=>show absurd (show false=true from f) ND
 |byt i =>
  let⟨t,rfl⟩:=g;cases y with
  |byt j=>let⟨e,rfl⟩:=d;show W.ne_bytes (ae I q (N6 not xm))
  |_=>show absurd (show false=true from f) ND
 |_=>ext y<;>show absurd (show false=true from f) ND
theorem LP:fH X (compareOp .Lt) (BD λi j=>.bl (decide (i<j))):=Eg λ_ _ _ _ _ _ _ q=>lt_int q
theorem LQ:fH X (compareOp .LtE) (BD λi j=>.bl (decide (i<=j))):=Eg λ_ _ _ _ _ _ _ q=>le_int q
theorem LR:fH X (compareOp .Gt) (BD λi j=>.bl (decide (j<i))):=Eg λ_ _ _ _ _ _ _ q=>gt_int q
theorem LS:fH X (compareOp .GtE) (BD λi j=>.bl (decide (j<=i))):=Eg λ_ _ _ _ _ _ _ q=>ge_int q
def Be:fH X (compareOp .Is) (λx y H Q=>y=.non/\Q (.bl (decide (x=.non))) H):=by
 intro e s g H x y v u Q I d f h;let⟨rfl,q⟩:=h;ext f;show is_none_gen (ae I q ?_)
 ext x<;>first
  |(ext d;rfl)
  |(let⟨t,rfl⟩:=d;rfl)
def xB:fH X (compareOp .IsNot) (λx y H Q=>y=.non/\Q (.bl (!decide (x=.non))) H):=by
 intro e s g H x y v u Q I d f h;let⟨rfl,q⟩:=h;ext f;show isnot_none_gen (ae I q ?_)
 ext x<;>first
  |(ext d;rfl)
  |(let⟨t,rfl⟩:=d;rfl)
def mH(b:Expr)(h:d≠.In:=by decide)(g:d≠.NotIn:=by decide):behindInMarks d b=false:=by
 let f:(d==CmpOp.In)=false:=by ext d<;>first|rfl|show absurd rfl h
 let e:(d==CmpOp.NotIn)=false:=by ext d<;>first|rfl|show absurd rfl g
 ext b<;>simp[behindInMarks,f,e]
def EY(j:fH X (compareOp e) r)(g:PE X a ta)(i:PE X b tb)(l:behindInMarks e b=false):PE X (.Compare a [e] [b] pos) (tOp r ta tb):=by intro d s f H Q I h;show wpAny_Compare1 (Jl g i I h λv u s2 x y H2 I2 rx ry q=>j d s2 f H2 x y v u Q I2 rx ry q) l
def GM(t:TE):TT:=λσ H Q=>t σ H λx H' =>∃k,x=.bl k/\Q k H'
def gq(l:fH X (compareOp g) r)(i:PE X a ta)(j:PE X b tb)(m:behindInMarks g b=false):PT X (.Compare a [g] [b] pos) (GM (tOp r ta tb)):=by
 intro d s f H Q I h
 show wpAny_isTrue_Compare1 (ar (i d s f H _ I h) λv s1 ⟨x,H1,I1,r1,q1⟩=>ar (j d s1 f H1 _ I1 q1) λu s2 ⟨y,H2,I2,r2,q2⟩ =>ar (l d s2 f H2 x y v u _ I2 r1 r2 q2) λc s3 ⟨z,H3,I3,r3,k,e,q3⟩=> ?_) m
 subst e;ext r3;show OS ⟨H3,I3,q3⟩
def Ah(r d :R2)(g e f:TE):TE:=λσ H Q=>g σ H λx H1=>e σ H1 λy H2=>r x y H2 λz H3=>∃k,z=.bl k /\ (if k=true then f σ H3 λw' H4=>d y w' H4 Q else Q (.bl false) H3)
def tD(p:fH X (compareOp i) r)(j :fH X (compareOp f) l)(m:PE X a ta)(o:PE X b tb)(n:PE X c tc)
  (q:lastMarks [i,f] [b,c]=false:=by with_unfolding_all rfl):PE X (.Compare a [i,f] [b,c] pos) (Ah r l ta tb tc):=by
 intro d s g H Q I h
 show Compare_chain (ar (m d s g H _ I h) λv s1 ⟨x,H1,I1,r1,q1⟩=>chain_link (ar (o d s1 g H1 _ I1 q1) λu s2 ⟨y,H2,I2,r2,q2⟩ =>ar (p d s2 g H2 x y v u _ I2 r1 r2 q2) λd s3 ⟨z,H3,I3,r3,k,e,q3⟩=> ?_)) q
 subst e;ext r3;show OS ?_;cases k with
 |false=>show ite_ff ⟨.bl false,H3,I3,rfl,q3⟩|true=>show ite_tt (chain_last (ar (n d s3 g H3 _ I3 q3) λw' s4 ⟨z',H4,I4,r4,q4⟩=>j d s4 g H4 y z' u w' Q I4 r2 r4 q4))
def sY(o:fH X (compareOp i) r)(j :fH X (compareOp f) l)(w:PE X a ta)(n:PE X b tb)(m:PE X c tc)
  (q:lastMarks [i,f] [b,c]=false:=by with_unfolding_all rfl):PT X (.Compare a [i,f] [b,c] pos) (GM (Ah r l ta tb tc)):=by
 intro d s g H Q I h
 show isTrue_chain (ar (w d s g H _ I h) λv s1 ⟨x,H1,I1,r1,q1⟩=>test_link (ar (n d s1 g H1 _ I1 q1) λu s2 ⟨y,H2,I2,r2,q2⟩ =>ar (o d s2 g H2 x y v u _ I2 r1 r2 q2) λd s3 ⟨z,H3,I3,r3,k,e,q3⟩=> ?_)) q
 subst e;ext r3;show OS ?_;cases k with
 |false =>let⟨C,A,p⟩:=q3;ext A;show ite_ff ⟨H3,I3,p⟩
 |true =>show ite_tt (test_last (ar (m d s3 g H3 _ I3 q3) λw' s4 ⟨z',H4,I4,r4,q4⟩=>ar (j d s4 g H4 y z' u w' _ I4 r2 r4 q4) λd' s5 ⟨z2,H5,I5,r5,k2,e2,q5⟩=> ?_));subst e2;ext r5;show OS ⟨H5,I5,q5⟩
def Jx(K:W.Frag)(x:V)(H:Hp)(k:Bool):Prop :=
 match x with
 | .non=>k=false| .bl b=>k=b| .int i=>k=(i !=0)| .str y=>y.length<=sizeLine/\k=((y.length:Int) !=0)| .byt y=>y.size<=sizeLine/\k=((y.size:Int) !=0)| .ref p=>(∃d,bG K H p d/\k= !d.isEmpty)\/(∃d,dg K H p d/\k= !d.isEmpty)\/∃e,H p=some (.dK e)/\k= !e.isEmpty|_=>False
def vj{e:Type}{d:List (e×V)}{f:List (e×Value)}(r:KV d f):(!f.isEmpty)= !d.isEmpty:=by ext r<;>rfl
def mR(r:aQ e d):(!d.toArray.isEmpty)= !e.isEmpty:=by ext r<;>simp
def iT:(sizeLine:Nat)<2^63:=by decide
def G9:TruR X (λx H Q=>∃k,Jx X.K x H k/\Q k H):=by
 intro A s L H x v Q I l h;let⟨k,e,q⟩:=h;let J:=N4;cases x with
 |non =>ext l;let d :=e;subst d;show truthy_none ⟨H,I,q⟩
 |bl b =>ext l;let d :=e;subst d;show OS ⟨H,I,q⟩
 |int i =>let⟨t,rfl⟩:=l;let d :=e;subst d;show PySem.P.truthy_int ⟨H,I,q⟩
 |str y =>let⟨t,rfl⟩:=l;obtain⟨D,d⟩:y.length<=sizeLine/\k=((y.length:Int) !=0):=e;subst d;show PySem.P.truthy_str 00 ⟨H,I.tok _,q⟩
 |byt y =>let⟨t,rfl⟩:=l;obtain⟨D,d⟩:y.size<=sizeLine/\k=((y.size:Int) !=0):=e;subst d;show W.truthy_bytes 00 ⟨H,I.tok _,q⟩
 |ref p =>
  ext l;let d :=e
  rcases d with⟨j,n,d⟩|⟨j,n,d⟩|⟨f,n,d⟩
  ·subst d
   let⟨z,r,u,C⟩:=I.list n;let g:=r.length;show wpAny_truthy_list u.isList (by simp only[NM];lia) ⟨H,I.tok _,by rwa[mR r]⟩
  ·subst d
   let⟨z,r,u,C⟩:=I.tuple n;let g:=r.length;show truthy_tuple u (by simp only[NM];lia) ⟨H,I.tok _,by rwa[mR r]⟩
  ·subst d
   obtain⟨C,E,o,r,m⟩:f.length<=sizeLine/\(p==sysModules)=false/\∃o,KV f o/\s.heap.DictOf (aZ X.prog X.w) p o:=I.hok p _ n;let g:=Paired.length r;show wpAny_truthy_dict E m 00 ⟨H,I.tok _,by rwa[vj r]⟩
 |_=>show(show False from e).elim
def BJ(ha:PE X a ta)(he:∀whole,isTrue a X.env whole=(do let v<-whole;standAt a.pos;holding [v] (truthy v))) :
  PT X a (λσ H Q=>ta σ H λx H' =>∃k,Jx X.K x H' k/\Q k H'):=by
 intro pins s σ H Q I h;show isTrue_plain (ar (ha pins s σ H _ I h) λv s1 ⟨x,H1,I1,r1,q1⟩=>G9 pins s1 σ H1 x v Q I1 r1 q1) (he _)
def vR:fH X (binaryOp .Add) (λx y H Q=>∃i j,x=.str i/\y=.str j/\i.length+j.length<=sizeLine/\Q (.str (i++j)) H):=by intro d s l H x y v u Q I f g h;let⟨i,j,rfl,rfl,e,q⟩:=h;let⟨t,rfl⟩:=f;let⟨m,rfl⟩:=g;show add_str (λt' tk=>⟨.str (i++j),H,I.tok _,⟨_,rfl⟩,q⟩) e
def vals1{us:List Value}(r:aQ [x] us):∃u,us=[u]/\RelV x u:=by
 cases r with
 |cons e d=>ext d;exists _,rfl,e
def vals2{us:List Value}(r:aQ [x,y] us):∃u d,us=[u,d]/\RelV x u/\RelV y d :=by
 cases r with
 |cons g e =>
  cases e with
  |cons h f=>ext f;exists _,_,rfl,g,h
def zZ(hc:X.calm=true):bQ X (.builtin "max") (λxs H Q=>∃i j,xs=[.int i,.int j]/\Q (.int (if j>i then j else i)) H):=by
 intro pins s σ H xs us Q I r h;let⟨i,j,rfl,q⟩:=h;obtain⟨u,w',rfl,⟨t,rfl⟩,⟨t',rfl⟩⟩:=vals2 r;show max_two_ints (I.ok.hd hc) λh' tk k=>⟨_,H,I.kept k,?_,q⟩
 by_cases hj:j>i;rw[M9 hj,M9 hj];show⟨_,rfl⟩;rw[NJ hj,NJ hj];show⟨_,rfl⟩
def zY(hc:X.calm=true):bQ X (.builtin "min") (λxs H Q=>∃i j,xs=[.int i,.int j]/\Q (.int (if j<i then j else i)) H):=by
 intro pins s σ H xs us Q I r h;let⟨i,j,rfl,q⟩:=h;obtain⟨u,w',rfl,⟨t,rfl⟩,⟨t',rfl⟩⟩:=vals2 r;show min_two_ints (I.ok.hd hc) λh' tk k=>⟨_,H,I.kept k,?_,q⟩
 by_cases hj:j<i;rw[M9 hj,M9 hj];show⟨_,rfl⟩;rw[NJ hj,NJ hj];show⟨_,rfl⟩
def ki:bQ X (.type "int") (λxs H Q=>(∃i,xs=[.int i]/\Q (.int i) H)\/∃k,xs=[.bl k]/\Q (.int (if k then 1 else 0)) H):=by
 intro pins s σ H xs us Q I r h
 rcases h with⟨i,rfl,q⟩|⟨k,rfl,q⟩
 ·show X_12 (λu R1=>X_11 λt R3=> ?_) (vals1 r);subst R1 R3
  show call_int_int ⟨.int i,H,I,⟨_,rfl⟩,q⟩
 ·let⟨u,rfl,r1⟩:=vals1 r
  ext r1;show call_int_bool ⟨.int (if k then 1 else 0),H,I.tok _,⟨_,rfl⟩,q⟩
end
structure KA(h:Heap)(x dx C:Addr)(mA:Str->Option Value):Prop where
 obj:h.get? x=some (W.instObj C dx)
 ns:h.Ns1 dx mA
 ne:dx≠x
open J in
def oZ{h:Heap}(n:h.Ns1 dx mA):∃od,h.get? dx=some od/\∀name,W.lookIn name od=some (mA name):=by
 let⟨o,es,ep,ho,hd,hk,_,hm⟩:=n;exists o,ho,λname=> ?_;let e:=hm name;unfold nsFind findBy at e;rw[<- Array.find?_toList]at e;unfold W.lookIn;rw[hd];dsimp only
 split
 ·rename_i y q
  rw[q]at e;show N6 some e
 ·rename_i q
  rw[q]at e;let a:es.toList.any (·.refKey)=false:=by rw[List.any_eq_false];intro y hy;let⟨z,t,hkey⟩:=hk y (Array.mem_toList_iff.mp hy);simp[DictEntry.refKey,hkey]
  let a' :¬es.toList.any (·.refKey)=true:=by rw[a];show ND
  rw[NJ a'];show N6 some e
theorem KA.look(I:KA h x d C c):∃b,W.InstAt h x (W.instObj C d) C (some b)/\∀a,W.lookIn a b=some (c a) :=
 let⟨b,ho,hl⟩:=oZ I.ns
 ⟨b,⟨I.obj,rfl,rfl,ho⟩,hl⟩
def il.some_of{v:V}{o:Option Value}(r:il (some v) o):∃u,o=some u/\RelV v u:=by
 cases o with
 |none=>show(show False from r).elim|some u=>exists u,rfl,r
def zK(r:RelV v u):W.handedIn u=true:=by
 cases v with
 |non=>cases(show u=Value.none from r);rfl|bl b=>cases(show u=Value.bool b from r);rfl|int i=>let⟨t,e⟩:=(show∃t,u=Value.int i t from r);ext e;rfl
 |str x=>let⟨t,e⟩:=(show∃t,u=Value.str x t from r);ext e;rfl
 |byt b=>let⟨t,e⟩:=(show∃t,u=Value.bytes b t from r);ext e;rfl
 |flt b=>let⟨t,e⟩:=(show∃t,u=Value.float b t from r);ext e;rfl
 |ref a=>cases(show u=Value.ref a from r);rfl|ty n=>cases(show u=Value.type n from r);rfl
section
variable{P:Program}{w:World}{H H' :Hp}{h h' :Heap}{a C dx:Addr}{fs fs' :List (Str×V)}
def E9(c:eO P w H h)(e:H a=some (.ins C dx fs)):∃b,KA h a dx C b/\(∀f,il (fs.lookup f) (b f))/\PySem.Within b (fs.map (·.1))/\fs.length<=1000/\H dx=some (.own a):=by obtain⟨d,z,g,i,b,n,r,q⟩:=(show aw P w H h a (.ins C dx fs)from c a _ e);exists b,⟨i,n,g⟩,r,q,z,d
end
structure Cls(K:W.Frag)(C:Addr):Prop where
 pg:W.plainGet K C Str.empty=true
 hd:W.hasDictIn K C=true
 po:W.plainOver K C=true
 sa:W.findIn K (.ref C) "__setattr__"=some (some (.builtin "object.__setattr__"))
theorem Cls.get{K:W.Frag}(c:Cls K C)(f:Str):W.plainGet K C f=true:=c.pg
section
variable{X:Cx}{pins:List (Addr×Obj)}{σ:St}{H:Hp}{s:Shared}{a C dx:Addr}{fs:List (Str×V)}{f:Str}{v:V}{A:Around}{E:Value->Shared->Prop}
theorem F6{s:Shared}(d:attributeBase e f b (eval e b)=eval e b)
  (h:wpAny (model c w) A (eval e b) (λo s₁=>wpAny (model c w) A (getAttr o f true) Q E s₁) E s):wpAny (model c w) A (eval (.Attribute e f pos) b) Q E s :=
 Attribute_any_ h (by rw[arm_eval_Attribute,d])
end
section
variable{X:Cx}{pins:List (Addr×Obj)}{σ:St}{H:Hp}{s:Shared}{A:Around}{E:Value->Shared->Prop}{Q:Value->Shared->Prop}{c:Value}{b:Bool}
inductive ko(K:W.Frag)(H:Hp):V->Value->Prop where
 | non:ko K H .non (.type "NoneType")
 | bl (x:Bool):ko K H (.bl x) (.type "bool")
 | int (i:Int):ko K H (.int i) (.type "int")
 | str (x:Str):ko K H (.str x) (.type "str")
 | flt (x:UInt64):ko K H (.flt x) (.type "float")
 | lst {a:Addr} {xs:List V} (e:H a=some (.lst xs)):ko K H (.ref a) (.type "list")
 | frz {a:Addr} {o:Obj} {xs:List V} (e:H a=some (.frz o (.lst xs))):ko K H (.ref a) (.type "list")
 | tup {a:Addr} {xs:List V} (e:H a=some (.tup xs)):ko K H (.ref a) (.type "tuple")
 | dK {a:Addr} {kvs:List (af×V)} (e:H a=some (.dK kvs)):ko K H (.ref a) (.type "dict")
 | dT {a:Addr} {kvs:List (List af×V)} (e:H a=some (.dT kvs)):ko K H (.ref a) (.type "dict")
 | ins {a C dx:Addr} {fs:List (Str×V)} (e:H a=some (.ins C dx fs)) (cl:Cls K C) (ha:W.findIn K (.ref C) "__class__"=some (some (.builtin "object.__class__")))
   (hn:W.specialIn K (.builtin "object.__class__") "__get__"=some (some (.builtin "getset_descriptor.__get__"))) (htk:W.takesIn K (.builtin "object.__class__")=some true)
   (hm:W.mroIn K C (.type "object")=some true):ko K H (.ref a) (.ref C)
def zG{t:Value}(I:Inv X pins σ H s)(d:RelV x u)(M:ko X.K H x t)(e:W.kitOne X.K t c=some b)(h:∀R,Q (.bool b) {s with toks:=R}) :
  wpAny (model X.prog X.w) A (call (.builtin "isinstance") [u,c]) Q E s:=by
 cases M with
 |non=>cases(show u=Value.none from d);show PH W.kitx_none I.kIn True.intro e (λz=>nomatch z) h|bl y=>cases(show u=Value.bool y from d);show PH W.kitx_bool I.kIn True.intro e (λz=>nomatch z) h|int i=>let⟨t,q⟩:=(show∃t,u=Value.int i t from d);ext q;show PH W.kitx_int I.kIn True.intro e (λz=>nomatch z) h
 |str y=>let⟨t,q⟩:=(show∃t,u=Value.str y t from d);ext q;show PH W.kitx_str I.kIn True.intro e (λz=>nomatch z) h
 |flt y=>let⟨t,q⟩:=(show∃t,u=Value.float y t from d);ext q;show PH W.kitx_float I.kIn True.intro e (λz=>nomatch z) h
 | @lst a l f =>cases(show u=Value.ref a from d);obtain⟨_,_,n,_,g⟩:=(show aw X.prog X.w H s.heap a (.lst l)from I.hok a _ f);show PH W.kitx_list I.kIn ⟨_,g,rfl⟩ e (λz=>nomatch z) h
 | @frz a U l f =>cases(show u=Value.ref a from d);obtain⟨_,_,_,n,_,g⟩:=(show aw X.prog X.w H s.heap a (.frz U (.lst l))from I.hok a _ f);show PH W.kitx_list I.kIn ⟨_,g,rfl⟩ e (λz=>nomatch z) h
 | @tup a l f =>cases(show u=Value.ref a from d);obtain⟨_,_,_,p⟩:=(show aw X.prog X.w H s.heap a (.tup l)from I.hok a _ f);let⟨o,g,m,_⟩:=p;show PH W.kitx_tuple I.kIn ⟨o,g,m⟩ e (λz=>nomatch z) h
 | @dK a j f =>cases(show u=Value.ref a from d);obtain⟨_,_,Z,_,o,D,N,g,m,_⟩:=(show aw X.prog X.w H s.heap a (.dK j)from I.hok a _ f);show PH W.kitx_dict I.kIn ⟨o,g,m.1⟩ e (λz=>nomatch z) h
 | @dT a j f =>cases(show u=Value.ref a from d);obtain⟨_,_,l,_,o,D,N,g,m,_⟩:=(show aw X.prog X.w H s.heap a (.dT j)from I.hok a _ f);show PH W.kitx_dict I.kIn ⟨o,g,m.1⟩ e (λz=>nomatch z) h
 | @ins a C Y fs f v T L r S =>cases(show u=Value.ref a from d);let⟨mA,O,_⟩:=E9 I.hok f;let⟨od,J,_⟩:=O.look;show PH (W.kitx_own (v.get _) v.hd T L r S) I.kIn J e (λz=>nomatch z) h
end
structure ck(k:Nat)(A:Around):Prop where
 hd:A.handled=none
 dp:A.depth+3*k+5<recursionLimit
 un:A.units+16*k+200<cLine
theorem ck.mono{k:Nat}{A:Around}(r:ck k A)(h:j<=k):ck j A:=⟨r.hd,by have:=r.dp;lia,by have:=r.un;lia⟩
theorem ck.deeper{k:Nat}{A:Around}(r:ck (k+1) A)(a:Env):ck k (A.deeper a) := ⟨r.hd,by have:=r.dp;change A.depth+1+3*k+5<_;lia,by have:=r.un;change A.units+3+16*k+200<_;lia⟩
def vc{A:Around}{us:List Value}:(A.under (.builtin "type.__call__" ⟨.ref C::us,a⟩)).depth=A.depth+1:=by first|rfl|simp[Around.under,Code.weight,Code.isCreation,Code.isGuard,Code.isCaller,Code.frames,Code.isFrame,guardIds]
def vb{A:Around}{us:List Value}:(A.under (.builtin "type.__call__" ⟨.ref C::us,a⟩)).units=A.units+1:=by first|rfl|simp[Around.under,Code.cUnits,Code.frames,Code.isFrame]
theorem ck.make{k:Nat}{A:Around}(r:ck (k+1) A)(C:Addr)(us:List Value)(a:List (Str×Value)):ck k (A.under (.builtin "type.__call__" ⟨.ref C::us,a⟩)) := ⟨r.hd,by have:=r.dp;rw[vc];lia,by have:=r.un;rw[vb];lia⟩
def ck.depth{k:Nat}{A:Around}(r:ck k A):A.depth<recursionLimit:=by have:=r.dp;lia
def ck.units{k:Nat}{A:Around}(r:ck k A):A.units+64<cLine:=by have:=r.un;lia
def tNil:TA:=λ_ H Q=>Q [] H
def Kn(b:TE)(a:TA):TA:=λσ H Q=>b σ H λx H1=>a σ H1 λxs H2=>Q (x::xs) H2
section
variable{X:Cx}{e:Expr}{es:List Expr}{te:TE}{t:TA}{pos:Pos}
theorem aH:PA X [] tNil:=λ_ _ _ _ H Q I h=>Calls.spliced_nil ⟨[],H,I,.nil,h⟩
def aC(d:PE X e te)(f:PA X es t)(c:starEach (e::es) X.env=(false,eval e X.env)::starEach es X.env:=by rfl):PA X (e::es) (Kn te t):=by intro pos a s b H Q I h;rw[c];show Calls.spliced_cons (ar (d a s b H _ I h) λu s1 hpq=> ?_);let⟨x,i,j,g,l⟩:=hpq;show ar (f pos a s1 b i _ j l) λus s2 ⟨xs,H2,I2,r2,q2⟩=>⟨x::xs,H2,I2,.cons g r2,q2⟩
def tTup(t:TA):TE:=λσ H Q=>t σ H λxs H1=>xs.length<=sizeLine/\∀p,H1 p=none->Q (.ref p) (upd H1 p (.tup xs))
def tLst(t:TA):TE:=λσ H Q=>t σ H λxs H1=>xs.length<=sizeLine/\∀p,H1 p=none->Q (.ref p) (upd H1 p (.lst xs))
def Hw{x1}(h:PA X es t):PE X (.Tuple es x1 pos) (tTup t):=by intro a s b H Q I c;show wpAny_Tuple_spliced (ar (h pos a s b H _ I c) λus s1 ⟨xs,H1,I1,r,z,q⟩=>⟨by rwa[<- r.length],?_⟩);exists .ref s1.heap.objs.size,upd H1 s1.heap.objs.size (.tup xs),I1.laid (λb u e=>M3 _ e) (NB _) ?_,rfl,q _ (I1.hok.fresh (NB _));show⟨z,us,r,⟨_,NR _ rfl,rfl,_,rfl,rfl⟩⟩
def eB(h:PA X es t):PE X (.List es pos) (tLst t):=by intro a s b H Q I c;show wpAny_List_spliced (ar (h pos a s b H _ I c) λus s1 ⟨xs,H1,I1,r,z,q⟩=>⟨by rwa[<- r.length],?_⟩);exists .ref s1.heap.objs.size,upd H1 s1.heap.objs.size (.lst xs),I1.laid (λb u e=>M3 _ e) (NB _) ?_,rfl,q _ (I1.hok.fresh (NB _));show⟨z,us,0,r,NR _ rfl⟩
end
abbrev Sp:=List V->Hp->VK->XK->Prop
abbrev wJ:=List Env->Hp->Shared->XK->Value->Shared->Prop
structure wI(P:Program)(w:World)(K:W.Frag)(mg:Str->Option Value)(base:Heap)(A:Around)(outer:List Env)(s:Shared)(H:Hp):Prop where
 frames:A.frames=some outer
 mod:Mod K mg base
 bs:∀b o,base.get? b=some o->s.heap.get? b=some o/\H b=none
 bsz:base.objs.size<=s.heap.objs.size
 funs:s.heap.FunFrames base outer
 frf:∀b∈uo outer,H b=none
 hok:eO P w H s.heap
 bare:AllBare s.gens
def CE(a:List Env)(P:Program)(w:World)(H:Hp)(s:Shared)(Q:VK)(u:Value)(b :Shared):Prop :=
 ∃v c,b.os=s.os/\AllBare b.gens/\Un (uo a) [] H c s.heap b.heap/\eO P w c b.heap/\RelV v u/\Q v c
def CR(c:wJ)(a:List Env)(P:Program)(w:World)(H:Hp)(s:Shared)(Q:VK)(E:XK)(r:Result)(b :Shared):Prop :=
 match r with
 | .ok (.ret u)=>CE a P w H s Q u b| .ok _=>False| .error e=>c a H s E e b
structure bI(P:Program)(w:World)(K:W.Frag)(mg:Str->Option Value)(base:Heap)(CX:wJ)(k:Nat)(f:Addr)(fd:FuncData)(ps:List Str)(sp:Sp):Prop where
 len:∀vs H Q E,sp vs H Q E->vs.length=ps.length
 run:∀(A:Around)(outer:List Env)(s:Shared)(H:Hp)(args:Args)(us:List Value)(vs:List V)(Q:VK)(E:XK),ck k A->wI P w K mg base A outer s H->BindsTo s fd args (ps.zip us)->aQ vs us->sp vs H Q E ->
  codeAny (model P w) A (.call (.ref f) args) (CR CX outer P w H s Q E) s
theorem bI.mono{P:Program}{K:W.Frag}{k:Nat}(F:bI P w K c a d j f g b e)(h:j<=k) :
  bI P w K c a d k f g b e:=⟨F.len,λA outer s H args us vs Q E hr=>F.run A outer s H args us vs Q E (hr.mono h)⟩
theorem wI.make{P:Program}{K:W.Frag}{A:Around}{s:Shared}(e:wI P w K c b A a s H)(C:Addr)(us:List Value)(d:List (Str×Value)) :
  wI P w K c b (A.under (.builtin "type.__call__" ⟨.ref C::us,d⟩)) a s H:=⟨by first|show e.frames|(simpa [Around.under,Code.envs,Code.isFrame,pushEnvs]using e.frames),e.mod,e.bs,e.bsz,e.funs,e.frf,e.hok,e.bare⟩
section
variable{X:Cx}{pins:List (Addr×Obj)}{σ:St}{H:Hp}{s s' :Shared}
theorem Inv.env0(I:Inv X pins σ H s):wI X.prog X.w X.K X.mg X.base X.A X.stack s H := ⟨I.ok.frames,I.ok.mod,I.bs,Nd I.ok.bsz I.sz,I.stack,I.stkFree,I.hok,I.bare⟩
def Inv.after(I:Inv X pins σ H s)(h:CE X.stack X.prog X.w H s Q u s'):EP X pins σ Q u s' :=by let⟨v,f,e,a,i,b,r,q⟩:=h;obtain⟨j,g,d,t,c⟩:=s';obtain rfl:c =s.os:=e;exists v,f,I.call i b a (λb z=>absurd z 03),r,q
end
def Ko(b:Sp)(a:List V)(E:XK)(t:TA):TE:=λσ H Q=>t σ H λvs H1=>b (vs++a) H1 Q E
def Binds(K:W.Frag)(c:FuncData)(a:List Str)(b:List Value):Prop :=
 ∀(s:Shared)(us:List Value),K.In s.heap->(us++b).length=a.length->BindsTo s c ⟨us,[]⟩ (a.zip (us++b))
theorem Binds.all{K:W.Frag}(h:∀us:List Value,us.length=a.length->bindArgs b ⟨us,[]⟩=pure (a.zip us)):Binds K b a []:=λs us _ hl=>by rw[OK]at hl ⊢;show .of_eq (h us hl)
def qu(d:wJ)(X:Cx)(E:XK):Prop:=∀(a:List (Addr×Obj))(c:St)(H:Hp)(s:Shared)(e:Value)(b :Shared),Inv X a c H s->d X.stack H s E e b ->X.xe e b
section
variable{X:Cx}{CX:wJ}{k:Nat}{f C:Addr}{fd:FuncData}{ps:List Str}{sp:Sp}{dvs:List V}{ds:List Value}{E:XK}{x m:Str}{p pos apos:Pos}{e o:Expr}{es:List Expr}{ta:TE}{t:TA}
def Ha{s:Shared}{us:List Value}(F:bI X.prog X.w X.K X.mg X.base CX k f fd ps sp)(q:ck k X.A)(l:Binds X.K fd ps ds)(i:aQ dvs ds)(n:qu CX X E)
  (I:Inv X a c H s) (r:aQ b us) (h:sp (b++dvs) H Q E):wpAny (model X.prog X.w) X.A (call (.ref f) us) (EP X a c Q) X.xe s:=by
 let d:=r.append i;let g:(us++ds).length=ps.length:=by rw[<- d.length];show F.len _ _ _ _ h
 show wpAny_call (QB (F.run X.A X.stack s H ⟨us,[]⟩ (us++ds) (b++dvs) Q E q I.env0 (l s us I.kIn g) d h) λr s' hq=> ?_);cases r with
 |error e=>show n a c H s e s' I hq|ok j =>
  cases j with
  |ret u=>show I.after hq|next=>show False.elim hq|brk=>show False.elim hq|cont=>show False.elim hq
def bE(F:bI X.prog X.w X.K X.mg X.base CX k f fd ps sp)(z:ck k X.A)(l:Gl X x)(v:X.mg x=some (.ref f))(i:W.keepIn X.K (.ref f)=true)(j:Binds X.K fd ps ds)(g:aQ dvs ds)(n:qu CX X E)
  (y:PA X (e::es) t) (c:(x==("__debug__":Str))=false:=by decide) (u:starEach (e::es) X.env=(false,eval e X.env)::starEach es X.env:=by rfl) (b:(backTo pos (starEach es X.env)).any (·.1)=false:=by rfl) :
  PE X (.Call (.Name x p) (e::es) [] pos) (Ko sp dvs E t):=by
 intro a s d H Q I h;show P1 (jr I l v ?_ c);show W.callWith_K I.ok.mod.kin i (ar (y pos a s d H _ I h) λus s1 ⟨vs,H1,I1,r,q⟩=>⟨I1.kIn,?_⟩) u b;show Ha F z j g n I1 r q
end
structure bA(N P:List Str)(sc:Scope):Prop where
 kind:sc.kind=.function
 co:sc.isCoroutine=false
 gen:sc.isGenerator=false
 nd:N.Nodup
 pre:N.take P.length=P
 par:∀x∈P,sc.names.lookup x=some .local\/sc.names.lookup x=some .cell
 nofree:∀y∈sc.names,y.2≠.free
theorem pB{b:Str->Option NameKind}{x:Str}:∀{a:List (Str×Value)}{m:Str->Option Value},(∀v,(x,v)∉a)->bindL b a m x=m x
 |[],_,_=>rfl|(n,v)::r,m,h=>by
  unfold bindL;rw[pB λw hw=>h w (M4 _ hw)]
  split
  ·have:x≠n:=by rintro rfl;show h v M7
   simp[this]
  ·rfl
theorem pD{b:Str->Option NameKind}{x:Str}:∀{a:List (Str×Value)}{m:Str->Option Value},(∀v,(x,v)∉a)->bindC b a m x=m x
 |[],_,_=>rfl|(n,v)::r,m,h=>by
  unfold bindC;rw[pD λw hw=>h w (M4 _ hw)]
  split;rfl
  ·have:x≠n:=by rintro rfl;show h v M7
   simp[this]
theorem pC{a:Str->Option NameKind}{x:Str}{v:Value}:∀{P:List Str}{b:List Value}{i:Nat}{m:Str->Option Value},P.Nodup->P[i]? =some x->b[i]? =some v->a x=some .local -> bindL a (P.zip b) m x=some v
 |[],_,_,_,_,h,_,_=>by simp at h|_::_,[],_,_,_,_,h,_=>by simp at h|p::P,w::b,0,m,nd,h1,h2,hk=>by simp at h1 h2;subst h1;subst h2;change bindL a ((p,w)::P.zip b) m p=_;unfold bindL;rw[pB λv hv=>(Np.mp nd).1 (List.of_mem_zip hv).1,M9 hk];simp
 |p::P,w::b,i+1,m,nd,h1,h2,hk=>by change bindL a ((p,w)::P.zip b) m x=_;unfold bindL;show pC (i:=i) (Np.mp nd).2 (by simpa using h1) (by simpa using h2) hk
theorem pE{a:Str->Option NameKind}{x:Str}{v:Value}:∀{P:List Str}{b:List Value}{i:Nat}{m:Str->Option Value},P.Nodup->P[i]? =some x->b[i]? =some v->a x≠some .local -> bindC a (P.zip b) m x=some v
 |[],_,_,_,_,h,_,_=>by simp at h|_::_,[],_,_,_,_,h,_=>by simp at h|p::P,w::b,0,m,nd,h1,h2,hk=>by simp at h1 h2;subst h1;subst h2;change bindC a ((p,w)::P.zip b) m p=_;unfold bindC;rw[pD λv hv=>(Np.mp nd).1 (List.of_mem_zip hv).1,NJ hk];simp
 |p::P,w::b,i+1,m,nd,h1,h2,hk=>by change bindC a ((p,w)::P.zip b) m x=_;unfold bindC;show pE (i:=i) (Np.mp nd).2 (by simpa using h1) (by simpa using h2) hk
def start(N:List Str)(a:List V):St:=a.map some++List.replicate (N.length-a.length) none
def iC(CX:wJ)(P:Program)(w:World)(K:W.Frag)(mg:Str->Option Value)(base:Heap)(N:List Str)(qual:Str)(scope:Scope)(f:Addr)(cd:Value)(A:Around)(outer:List Env)(s:Shared)(H:Hp)(E:XK):Cx where
 prog:=P
 w:=w
 K:=K
 mg:=mg
 base:=base
 A:=A.deeper (envOfC qual scope s.heap.objs.size f cd)
 N:=N
 s₀:=s
 H₀:=H
 env:=envOfC qual scope s.heap.objs.size f cd
 outer:=outer
 stack:=envOfC qual scope s.heap.objs.size f cd::outer
 ex:=[]
 calm:=true
 fn:=λ_=>true
 pn:=[]
 xe:=λe s' =>wpAny (model P w) (A.deeper (envOfC qual scope s.heap.objs.size f cd)) (leaving (envOfC qual scope s.heap.objs.size f cd) e) (λ_ s'' =>CX outer H s E e s'') (λe' s'' =>CX outer H s E e' s'') s'
def uX{a:Scope}{n:Nat}(h:a.names.lookup x=some .cell):∃c,(cellsFrom n a.names []).lookup x=some c:=by show Option.isSome_iff_exists.mp (W.cellsFrom_some a.names n [] (.inl h))
def zH{CX:wJ}{P:Program}{K:W.Frag}{qual:Str}{scope:Scope}{cd:Value}{A:Around}{s s1:Shared}{us:List Value}
  (S:bA N ps scope) (hd:A.handled=none) (e0:wI P w K mg base A outer s H) (hl:vs.length=ps.length) (r:aQ vs us)
  (x:InCallC s s.heap.objs.size (bindL (envOfC qual scope s.heap.objs.size f cd).kindOf (ps.zip us) λ_=>none) (cellsFrom (s.heap.objs.size+1) scope.names []) (bindC (envOfC qual scope s.heap.objs.size f cd).kindOf (ps.zip us) λ_=>none) s1) :
  Inv (iC CX P w K mg base N qual scope f cd A outer s H E) [] (start N vs) H s1:=by
 let hpl:ps.length<=N.length:=by have:=N6 List.length S.pre;rw[OF]at this;lia
 let⟨h1,tk,rfl,hk⟩:=x.done;let noA:∀b,b∉(iC CX P w K mg base N qual scope f cd A outer s H E).ex:=λb z=>absurd (show b∈([]:List Addr)from z) 03
 show⟨⟨e0.mod,S.kind,rfl,rfl,NB _,λy z c h1 h2=> ?_,λy hy=> ?_,λy c _ h=> ?_,λ_=>hd,Around.frames_deeper e0.frames,.inr ⟨rfl,rfl⟩,λb z=>absurd z (noA b),e0.bs,e0.bsz,λb _ _=>noA b,λb z=>absurd z (noA b),e0.funs,e0.frf⟩,rfl,e0.bare,Un.kept hk,Y_12 _ x.toInCall.ns (λi y v h1 h2 h3=> ?_),λy c h=>⟨_,x.cell y c h⟩,e0.hok.fresh (NB _),λy c h=> ?_,λp hp=>absurd (show p∈([]:List (Addr×Obj))from hp) 03,e0.hok.kept hk,?_⟩
 ·show name_of_addr x.apart (Nx h1) (Nx h2)
 ·let hy:=hy
  rcases hy with hy|hy
  ·show uX hy
  ·show absurd rfl (S.nofree _ (Nx hy))
 ·show Ou (x.above y c (Nx h))
 ·let hi:i<vs.length:=by
   unfold start at h2
   by_cases hi:i<vs.length;show hi
   ·rw[PZ (by simpa using hi)]at h2
    rw[List.getElem?_replicate]at h2
    split at h2<;>ext h2
  let ha:vs[i]? =some v:=by
   unfold start at h2;rw[OD (by simpa using hi),NG]at h2;cases e:vs[i]? with
   |none=>rw[e]at h2;ext h2|some a=>rw[e]at h2;ext h2;rfl
  let⟨u,hu,rv⟩:=r.get ha;let hp:ps[i]? =some y:=by rwa[<- S.pre,List.getElem?_take_of_lt 00]
  let ndP:ps.Nodup:=by rw[<- S.pre];show S.nd.sublist (List.take_sublist _ _)
  exists u,rv,?_
  rcases S.par y (NS hp)with k|k
  ·show .inl ⟨k,pC ndP hp hu k⟩
  ·obtain⟨c,e⟩:=uX k
   show .inr ⟨.inl k,Y_12 c e ?_⟩;let q:=x.cell y c e;rwa[pE ndP hp hu (by change scope.names.lookup y≠_;rw[k];decide)]at q
 ·show e0.hok.fresh (Ou (x.above y c (Nx h)))
 ·unfold start
  change _=N.length;rw[NO,M0,List.length_replicate];lia
def xX{P:Program}{K:W.Frag}{k:Nat}{qual:Str}{body:List Stmt}{scope:Scope}{kV ct:Value}
   {M:List Str}  (lk:K.lookup f=some ⟨oc,od,.func (W.fnOf j qual d body scope Z kV z pm an c ct),Y⟩) (R:W.codeIn K c qual=true) (S:bA N M scope)
  (D:∀h H Q E,T h H Q E->h.length=M.length)
  (m:∀(A:Around)(a:List Env)(s:Shared)(H:Hp)(h:List V)(Q:VK)(E:XK),ck k (A.deeper (envOfC qual scope s.heap.objs.size f c))->T h H Q E -> ∃t,rA (iC O P w K L g N qual scope f c A a s H E) body t/\t {nx:=λ_ l =>Q .non l,rt:=Q} (start N h) H) :
  bI P w K L g O (k+1) f (W.fnOf j qual d body scope Z kV z pm an c ct) M T:=by
 show⟨D,λA a s H args us h Q E hr e0 hb r hsp=> ?_⟩;let KX:=e0.mod.kin.keeps λb o e=>(e0.bs b o e).1;let p:∀y∈M.zip us,scope.names.lookup y.1=some .local\/(scope.names.lookup y.1=some .cell/\((cellsFrom (s.heap.objs.size+1) scope.names []).lookup y.1).isSome=true):=λ⟨n,v⟩ hy=>by
  rcases S.par n (List.of_mem_zip hy).1 with q|q
  ·show .inl q
  ·show .inr ⟨q,W.cellsFrom_some _ _ _ (.inl q)⟩
 show codeAny_call_function hr.depth (KX _ _ lk) rfl S.co S.gen rfl (W.codeRec_of KX R) (hb _ _ _ _ ?_);show wpAny_newFunctionEnv_cells S.kind p λenv he s1 x=> ?_;subst he;show⟨(e0.mod.nolimit.keeps λb o e=>(e0.bs b o e).1).keeps x.toInCall.keep,codeAny_func ?_⟩;let⟨t,ht,hq⟩:=m A a s H h Q E (hr.deeper _) hsp;let I:Inv (iC O P w K L g N qual scope f c A a s H E) [] (start N h) H s1:=zH S hr.hd e0 (D _ _ _ _ hsp) r x;show OR (ht [] s1 (start N h) H _ I hq) (λfl s' hs=> ?_) λe s' hs=>hs
 let C:∀{i :St}{l :Hp}{v:V}{u:Value},Inv (iC O P w K L g N qual scope f c A a s H E) [] i l s' ->RelV v u->Q v l ->CE a P w H s Q u s' :=
  λ{i l v u} J U q=>⟨v,l,J.os,J.bare,J.base,J.hok,U,q⟩
 cases fl with
 |ret u =>let⟨v,i,l,J,U,q⟩:=hs;show C J U q
 |next =>let⟨i,l,J,q⟩:=hs;show C (v:=V.non) J rfl q
 |brk =>let⟨_,_,_,q⟩:=hs;show False.elim q
 |cont =>let⟨_,_,_,q⟩:=hs;show False.elim q
section
variable{X:Cx}{x:Str}{p pos:Pos}{e:Expr}{es:List Expr}{t:TA}{id T:String}{r:List V->Hp->VK->Prop}
def tCB(r:List V->Hp->VK->Prop)(t:TA):TE:=λσ H Q=>t σ H λvs H1=>r vs H1 Q
def eC(j:bQ X (.builtin id) r)(l:Gl X x)(n:X.mg x=none)(m:bootBuiltins x=some (.builtin id))(f:PA X (e::es) t)(g:x≠"__name__":=by decide)(b:(x==("__debug__":Str))=false:=by decide)
  (i:starEach (e::es) X.env=(false,eval e X.env)::starEach es X.env:=by rfl) (c:(backTo pos (starEach es X.env)).any (·.1)=false:=by rfl):PE X (.Call (.Name x p) (e::es) [] pos) (tCB r t):=by
 intro a s d H Q I h;show P1 (fP I l n m ?_ g b);show PyProof.Rows.callWith_builtin1 (ar (f pos a s d H _ I h) λus s1 ⟨vs,H1,I1,r1,q1⟩=>j a s1 d H1 vs us Q I1 r1 q1) i c
def bh(j:bQ X (.type T) r)(l:Gl X x)(n:X.mg x=none)(m:bootBuiltins x=some (.type T))(f:PA X (e::es) t)(g:x≠"__name__":=by decide)(b:(x==("__debug__":Str))=false:=by decide)
  (i:starEach (e::es) X.env=(false,eval e X.env)::starEach es X.env:=by rfl) (c:(backTo pos (starEach es X.env)).any (·.1)=false:=by rfl):PE X (.Call (.Name x p) (e::es) [] pos) (tCB r t):=by
 intro a s d H Q I h;show P1 (fP I l n m ?_ g b);show ON (ar (f pos a s d H _ I h) λus s1 ⟨vs,H1,I1,r1,q1⟩=>j a s1 d H1 vs us Q I1 r1 q1) i c
end
end L2
namespace HT
open PySem PyProof.Rows
section
variable{prog:Program}{w:World}{A:Around}{E:Value->Shared->Prop}{s:Shared}
def nH(n d:Nat):Option Int->Nat
 |none=>d|some v=>if v<0 then(v+(n:Int)).toNat else min v.toNat n
def A2(n d:Nat):nH n d none=d:=rfl
open H
def lN(n d k:Nat):nH n d (some (k:Int))=min k n:=by change(if k<0 then(k+(n:Int)).toNat else min (k:Int).toNat n)=min k n;rw[NJ 00,N9]
end
end HT
namespace L2
open PySem PySem.Spec PyProof.Rows
abbrev TO:=St->Hp->(Option Int->Hp->Prop)->Prop
def PO(X:Cx)(e:Option Expr)(t:TO):Prop :=
 ∀(a:List (Addr×Obj))(s:Shared)(b:St)(H:Hp)(Q:Option Int->Hp->Prop),Inv X a b H s->t b H Q -> wpAny (model X.prog X.w) X.A (evalPart e X.env) (λu s' =>∃o c,Inv X a b c s' /\IsPart u o/\Q o c) X.xe s
def Ds:TO:=λ_ H Q=>Q none H
def Kg(t:TE):TO:=λσ H Q=>t σ H λx H1=>∃i,x=.int i/\Q (some i) H1
open H
def intsAre_of:∀{us:List Value},aQ (a.map V.int) us->IntsAre us a:=by
 induction a with
 |nil=>intro us r;ext r;show .nil|cons n a d =>
  intro us r;cases r with
  |cons c b =>let⟨t,e⟩:=c;subst e;show .cons n t (d b)
section
variable{X:Cx}{e:Expr}{te:TE}{lo hi:Option Expr}{tl th:TO}{pos p2:Pos}
def ww:PO X none Ds:=by intro a s b H Q I h;show NK (Y_23 none H I .none h)
def wv(h:PE X e te):PO X (some e) (Kg te):=by intro a s b H Q I c;show ar (h a s b H _ I c) λu s1 hpq=> ?_;show X_23 (λx f g d=>X_12 λi R5 q=> ?_) hpq;subst R5;let⟨t,rfl⟩:=d;exists some i,f,g,.int i t,q
def SlR(X:Cx)(r:V->Option Int->Option Int->Hp->VK->Prop):Prop :=
 ∀(a:List (Addr×Obj))(s:Shared)(c:St)(H:Hp)(x:V)(v b g:Value)(f d:Option Int)(h:Addr)(Q:VK),Inv X a c H s->RelV x v->s.heap.IsSliceOf h b g .none->IsPart b f->IsPart g d->r x f d H Q -> ∃T i,typeLookup (.type T) "__getitem__"=pure (some (.builtin i))/\s.TypeIs v T/\wpAny (model X.prog X.w) X.A (getItem v (.ref h)) (EP X a c Q) X.xe s
def tSl(r:V->Option Int->Option Int->Hp->VK->Prop)(a:TE)(c b:TO):TE:=λσ H Q=>a σ H λx H1=>c σ H1 λl H2=>b σ H2 λu H3=>r x l u H3 Q
def sw(D:SlR X r)(p:PE X e te)(d:PO X lo tl)(E:PO X hi th):PE X (.Subscript e (.Slice lo hi none p2) pos) (tSl r te tl th):=by intro a s b H Q I h;show Subscript_ (ar (p a s b H _ I h) λv s1 hpq=> ?_);let⟨x,f,n,g,C⟩:=hpq;show wpAny_Slice (ar (d a s1 b f _ n C) λvl s2 ⟨l,H2,I2,pl,q2⟩=>ar (E a s2 b H2 _ I2 q2) λvu s3 hpq=> ?_);let⟨u,c,j,y,J⟩:=hpq;show NK ?_;let z:Inv X a b c {s3 with heap:=s3.heap.push {cls:=.type "slice",data:=.fields #[vl,vu,.none]}}:=j.kept λb ob q=>M3 _ q;let⟨T,K,o,i,m⟩:=D a {s3 with heap:=s3.heap.push {cls:=.type "slice",data:=.fields #[vl,vu,.none]}} b c x v vl vu l u s3.heap.objs.size Q z g (Heap.IsSliceOf.new ..) pl y J;show tail_any i o m (by with_unfolding_all rfl)
def qf(a:List V)(b c:Option Int):List V:=(a.drop (HT.nH a.length 0 b)).take (HT.nH a.length a.length c-HT.nH a.length 0 b)
def uT(a:List V)(c b:Option Int):(qf a c b).length<=a.length:=by unfold qf;rw[OF,List.length_drop];lia
end
def qz(n:Nat)(i:Int):Option Nat:=if 0<=i then(if i<n then some i.toNat else none)else if -(n:Int)<=i then some (i+n).toNat else none
def cH{b:Type}(a:List b)(i:Int):Option b:=(qz a.length i).bind λj=>a[j]?
def xO(h:qz n i=some j):seqIndex? i n=some j/\j<n/\ -(n:Int)<=i/\i<n:=by
 unfold qz at h
 by_cases b:0<=i
 ·rw[M9 b]at h
  by_cases a:i<n
  ·rw[M9 a]at h
   let e:=Nf h;show⟨by rw[seqIndex_of b a,e],00,00,a⟩
  ·rw[NJ a]at h;ext h
 ·rw[NJ b]at h
  by_cases a: -n<=i
  ·rw[M9 a]at h
   show⟨by rw[seqIndex_neg 00 a,Nf h],00,a,00⟩
  ·rw[NJ a]at h;ext h
def qo{b:Type}{a:List b}{v:b}(h:cH a i=some v):∃j,seqIndex? i a.length=some j/\a[j]? =some v/\j<a.length/\ -(a.length:Int)<=i/\i<a.length:=by
 unfold cH at h;cases e:qz a.length i with
 |none=>rw[e]at h;ext h|some j =>rw[e]at h;let⟨c,d,g,f⟩:=xO e;exists j,c,h,d,g,f
def bY{a:Type}{xs:List a}{j:Nat}{v:a}(h:xs[j]? =some v):cH xs (j:Int)=some v:=by
 let b:=(NC.mp h).1;let e:qz xs.length j=some j:=by unfold qz;rw[M9 00,M9 00];simp
 unfold cH;rwa[e]
def x5(b:Expr):Prop:=∀o i,subscripted b false o i=operate [o,i] (getItem o i)
def Mr(X:Cx)(r:R2):Prop :=
 ∀(c a:Expr)(b:List (Addr×Obj))(s:Shared)(d:St)(H:Hp)(x y:V)(v u:Value)(Q:VK),Inv X b d H s->RelV x v->RelV y u->r x y H Q -> subscripted a false v u=operate [v,u] (getItem v u)->wpAny (model X.prog X.w) X.A (subscriptTail c a v u) (EP X b d Q) X.xe s
def GB(X:Cx)(d:String)(r:V->List V->Hp->VK->Prop):Prop :=
 ∀(a:List (Addr×Obj))(s:Shared)(c:St)(H:Hp)(x:V)(b:List V)(v:Value)(us:List Value)(Q:VK),Inv X a c H s->RelV x v->aQ b us->r x b H Q -> wpAny (model X.prog X.w) X.A (call (.builtin d) (v::us)) (EP X a c Q) X.xe s
section
variable{X:Cx}{a b:Expr}{ta tb:TE}{pos:Pos}
def jh(g:Mr X r)(f:PE X a ta)(i:PE X b tb)(d:x5 b):PE X (.Subscript a b pos) (tOp r ta tb):=by intro c s e H Q I h;show Subscript_ (Jl f i I h λv u s2 x y H2 I2 rx ry q=>g a b c s2 e H2 x y v u Q I2 rx ry q (d _ _))
def rIxL(K:W.Frag):R2:=λx y H Q=>∃p c i v,x=.ref p/\y=.int i/\bG K H p c/\cH c i=some v/\Q v H
def rIxT(K:W.Frag):R2:=λx y H Q=>∃p c i v,x=.ref p/\y=.int i/\dg K H p c/\cH c i=some v/\Q v H
def rIxS:R2:=λx y H Q=>∃z i c,x=.str z/\y=.int i/\z.length<=sizeLine/\cH z.cps.toList i=some c/\Q (.str ⟨#[c]⟩) H
def dw:Mr X (rIxL X.K):=by
 intro f o c s C H x y v u Q I M T h A;show X_41 (λp Y i z=>X_05 λR4 R5 L N q=> ?_) h;subst R4 R5;ext M;let⟨t,rfl⟩:=T;let⟨n,r,g,W⟩:=I.list L;let⟨j,e,S,Z,O,R⟩:=qo N;let⟨w,D,l⟩:=r.get S;let J:=r.length;let U:=iT;let d:EP X c C Q w s:=⟨z,H,I,l,q⟩
 by_cases E:0<=i
 ·let m:i.toNat=j:=by
   rw[seqIndex_of E R]at e;show Nf e
  show item_listR g.isList E 00 (by rw[m];simpa using D) d A
 ·let m:(i+(n.toArray.size:Int)).toNat=j:=by
   rw[seqIndex_neg 00 O]at e;rw[NM,<-J];show Nf e
  show subscriptTail_builtinR g.isList.typeIs slot_list_getitem.lookup
   (wpAny_getItem_list_neg g.isList 00 (by rw[NM]<;>lia) 00 (by rw[m];simpa using D) ⟨rfl,d⟩) A
def CN:Mr X (rIxT X.K):=by
 intro d g c s l H x y v u Q I D N h n;show X_41 (λp S i z=>X_05 λR4 R5 A E q=> ?_) h;subst R4 R5;ext D;let⟨t,rfl⟩:=N;let⟨J,r,m,R⟩:=I.tuple A;let⟨j,C,M,U,T,W⟩:=qo E;let⟨w,L,e⟩:=r.get M;let O:=iT;let f:EP X c l Q w s:=⟨z,H,I,e,q⟩
 show subscriptTail_builtinR m.typeIs slot_tuple_getitem.lookup
  (getItem_tuple m 00 00 (by rwa[NM,<-r.length]) (by simpa using L) ⟨rfl,f⟩) n
def vg:Mr X rIxS:=by
 intro d e f s E H x y v u Q I n D h l;let⟨z,i,c,rfl,rfl,L,o,q⟩:=h;let⟨t,rfl⟩:=n;let⟨J,rfl⟩:=D;let⟨j,g,C,M,p,A⟩:=qo o;let m:z.cps.toList.length=z.length:=by simp[Str.length]
 rw[m]at g p A;let K:=iT
 show tail_any (QH s z t) slot_str_getitem.lookup (getItem_str (by let w:decide (i< -(2^63:Int))=false:=Nu 00;let r:decide (i ≥ 2^63)=false:=Nu 00;rw[w,r,Bool.or_false]) (by rw[g];simpa using C) ⟨.str ⟨#[c]⟩,H,I.tok _,⟨_,rfl⟩,q⟩) l
def va(c:List Value)(n j:Nat)(u:Value):Obj.mapSeq (·.setIfInBounds j u) {cls:=.type "list",data:=.seq c.toArray n}={cls:=.type "list",data:=.seq (c.set j u).toArray n}:=by simp[Obj.mapSeq]
def Inv.lst{d:List (Addr×Obj)}{g:St}{H:Hp}{s:Shared}{p:Addr}{f:List V}(I:Inv X d g H s)(h:H p=some (.lst f)) :
  ∃(c:List Value)(n:Nat),aQ f c/\s.heap.get? p=some {cls:=.type "list",data:=.seq c.toArray n}/\f.length<=sizeLine:=by
 show X_02 (λz=>X_22 λc n r e=> ?_) (I.hok p _ h);exists c,n,r,e,z
def Inv.lstUpd{s:Shared}{i:List V}{g c:List Value}(I:Inv X d l H s)(h:H p=some (.lst w))
  (v:s.heap.get? p=some {cls:=.type "list",data:=.seq g.toArray n}) (m:f {cls:=.type "list",data:=.seq g.toArray n}={cls:=.type "list",data:=.seq c.toArray j}) (r:aQ i c) (o:i.length<=sizeLine) (t:Nat) :
  Inv X d l (upd H p (.lst i)) {s with heap:=s.heap.update p f,toks:=t}:=by
 let e:(s.heap.update p f).get? p=some {cls:=.type "list",data:=.seq c.toArray j}:=by rw[OB f v (by rw[m]<;>rfl),m]
 show I.write (by rw[h];trivial) (.inl rfl) (λb u hb q=>(Nt _ _ (OC hb)).trans q) ⟨_,e⟩ ?_;show⟨o,c,j,r,e⟩
def K7:V->V->V->Hp->(Hp->Prop)->Prop:=λo i v H Q=>∃p c k j,o=.ref p/\i=.int k/\H p=some (.lst c)/\qz c.length k=some j/\Q (upd H p (.lst (c.set j v)))
def sD:Ml X K7:=by
 intro c s A H o i v R N u Q I L E K h;show X_41 (λp J k j=>X_05 λR4 R5 m D q=> ?_) h;subst R4 R5;ext L;let⟨t,rfl⟩:=E;let⟨d,n,r,l,C⟩:=I.lst m;let⟨e,O,x,w⟩:=xO D;let f:=r.length;let M:=iT
 let y :=
  I.lstUpd m l (va d n j u) (r.set K j) (by rwa[OU]) s.toks
 by_cases z:0<=k
 ·let g:k.toNat=j:=by
   rw[seqIndex_of z w]at e;show Nf e
  show W.ki_setAt l z 00 (by rwa[NM,<-f]) (by rw[g];exists _,y,q)
 ·let g:(k+(d.toArray.size:Int)).toNat=j:=by
   rw[seqIndex_neg 00 x]at e;rw[NM,<-f];show Nf e
  show W.ki_setBack l 00 (by rwa[NM,<-f]) 00 (by rw[g];exists _,y,q)
def pU(d c:Option Int)(n:Nat):(sliceBounds d c none n).1=((HT.nH n 0 d:Nat):Int)/\(sliceBounds d c none n).2.1=((HT.nH n n c:Nat):Int)/\(sliceBounds d c none n).2.2=1:=by
 show⟨?_,?_,rfl⟩
 ·cases d with
  |none=>simp[sliceBounds,HT.nH]|some i =>
   simp only[sliceBounds,HT.nH,Option.getD_none,show(1:Int)>0 by decide,O6]
   by_cases h:i<0;simp only[h,O6]<;>lia;simp only[h,Ps]<;>lia
 ·cases c with
  |none=>simp[sliceBounds,HT.nH]|some i =>
   simp only[sliceBounds,HT.nH,Option.getD_none,show(1:Int)>0 by decide,O6]
   by_cases h:i<0;simp only[h,O6]<;>lia;simp only[h,Ps]<;>lia
def nM(c:List Value)(d e:Option Int):slicePick c.toArray d e none=((c.drop (HT.nH c.length 0 d)).take (HT.nH c.length c.length e-HT.nH c.length 0 d)).toArray:=by let⟨f,g,h⟩:=pU d e c.toArray.size;unfold slicePick;rw[f,g,h];simp only[sliceRange_one,pick_run,NM]<;>rfl
def rSlL(K:W.Frag):V->Option Int->Option Int->Hp->VK->Prop:=λx lo hi H Q=>∃a c,x=.ref a/\bG K H a c/\∀p,H p=none->Q (.ref p) (upd H p (.lst (qf c lo hi)))
def wc:SlR X (rSlL X.K):=by intro g s z H x v y A e f C Q I p j l u h;let⟨a,c,rfl,n,q⟩:=h;ext p;let⟨w,r,i,m⟩:=I.list n;let d:=r.length;exists "list",_,slot_list_getitem.lookup,i.isList.typeIs,?_;show wpAny_getItem_list_slice i.isList j l u .none 03 ?_ (by rw[NM]<;>lia);rw[nM,<-d];exists .ref s.heap.objs.size,_,I.laid (λb ob q=>M3 _ q) (NB _) ?_,rfl,q _ (I.hok.fresh (NB _));show⟨Nd (uT c e f) m,_,0,(r.drop (HT.nH c.length 0 e)).take (HT.nH c.length c.length f-HT.nH c.length 0 e),NR _ rfl⟩
def iH:V->Bool
 | .non=>true| .bl _=>true| .int _=>true| .str _=>true|_=>false
def AC:V->V->Bool
 | .non,.non=>true| .bl a,.bl b=>a==b| .bl a,.int b=>(if a then 1 else 0)==b| .int a,.bl b=>a==(if b then 1 else 0)| .int a,.int b=>a==b| .str a,.str b=>a==b|_,_=>false
def JU{A:Around}{s:Shared}(f:RelV y u)(c:RelV x v)(g:iH y=true)(e:iH x=true):SeqAt.EqAt A s u v (AC y x):=by
 cases y with
 |non =>
  ext f;cases x with
  |non=>ext c;show SeqAt.EqAt.same _|bl b=>ext c;show SeqAt.EqAt.none_bool b|int b=>let⟨t,rfl⟩:=c;show SeqAt.EqAt.none_int b t
  |str b=>let⟨t,rfl⟩:=c;show SeqAt.EqAt.none_str b t
  |_=>show absurd (show false=true from e) ND
 |bl a =>
  ext f;cases x with
  |non=>ext c;show SeqAt.EqAt.bool_none a|bl b=>ext c;show SeqAt.EqAt.bool_bool a b|int b=>let⟨t,rfl⟩:=c;show SeqAt.EqAt.bool_int a b t
  |str b=>let⟨t,rfl⟩:=c;show SeqAt.EqAt.bool_str a b t
  |_=>show absurd (show false=true from e) ND
 |int a =>
  let⟨d,rfl⟩:=f;cases x with
  |non=>ext c;show SeqAt.EqAt.int_none a d|bl b=>ext c;show SeqAt.EqAt.int_bool a d b|int b=>let⟨t,rfl⟩:=c;show SeqAt.EqAt.int_int a d b t
  |str b=>let⟨t,rfl⟩:=c;show SeqAt.EqAt.int_str a d b t
  |_=>show absurd (show false=true from e) ND
 |str a =>
  let⟨d,rfl⟩:=f;cases x with
  |non=>ext c;show SeqAt.EqAt.str_none a d|bl b=>ext c;show SeqAt.EqAt.str_bool a d b|int b=>let⟨t,rfl⟩:=c;show SeqAt.EqAt.str_int a d b t
  |str b=>let⟨t,rfl⟩:=c;show SeqAt.EqAt.str_str a d b t
  |_=>show absurd (show false=true from e) ND
 |_=>show absurd (show false=true from g) ND
def vm(x:V)(u:Value):Bool:=match u with
 | .none=>AC .non x| .bool b=>AC (.bl b) x| .int i _=>AC (.int i) x| .str z _=>AC (.str z) x|_=>false
def Cj(r:RelV y u)(f:iH y=true):vm x u=AC y x:=by
 cases y with
 |non=>ext r;rfl|bl b=>ext r;rfl|int i=>let⟨t,rfl⟩:=r;rfl
 |str z=>let⟨t,rfl⟩:=r;rfl
 |_=>show absurd (show false=true from f) ND
theorem kL{x:V}:∀{c:List V}{us:List Value},aQ c us->c.all iH=true->us.any (vm x)=c.any λy=>AC y x
 |_,_,.nil,_=>rfl|y::c,u::us,.cons r t,f=>by rw[P9,M8]at f;rw[PK,PK,Cj r f.1,kL t f.2]
theorem gP{A:Around}{s:Shared}{x:V}{v:Value}(e:RelV x v)(g:iH x=true):∀{d:List V}{us:List Value},aQ d us->d.all iH=true->∀u∈us,SeqAt.EqAt A s u v (vm x u)
 |_,_,.nil,_=>λu c=>by ext c|y::d,u::us,.cons r t,f=>λu' c=>by
  rw[P9,M8]at f
  rcases NH.mp c with rfl|c
  ·rw[Cj r f.1];show JU r e f.1 g
  ·show gP e g t f.2 u' c
def inV(x:V)(c:List V):Bool:=c.any λy=>AC y x
def rIn(K:W.Frag)(neg:Bool):R2:=λx y H Q=>∃p c,y=.ref p/\(bG K H p c\/dg K H p c)/\iH x=true/\c.all iH=true/\Q (.bl (if neg then !inV x c else inV x c)) H
def oR:fH X (compareOp .In) (rIn X.K false):=by
 intro i s n H x y v u Q I j m h;let⟨p,o,rfl,d,g,e,q⟩:=h;ext m
 rcases d with d|d
 ·let⟨c,r,f,l⟩:=I.list d
  show SeqAt.in_listAt (vm x) f.isList (λw hw=>gP j g r e w (by simpa using hw)) ⟨.bl _,H,I,rfl,?_⟩;rwa[show c.toArray.any (vm x)=c.any (vm x)by simp,kL r e]
 ·let⟨c,r,f,l⟩:=I.tuple d
  show SeqAt.in_tupleAt (vm x) f (λw hw=>gP j g r e w (by simpa using hw)) ⟨.bl _,H,I,rfl,?_⟩;rwa[show c.toArray.any (vm x)=c.any (vm x)by simp,kL r e]
def px:fH X (compareOp .NotIn) (rIn X.K true):=by
 intro i s n H x y v u Q I j m h;let⟨p,o,rfl,d,g,e,q⟩:=h;ext m
 rcases d with d|d
 ·let⟨c,r,f,l⟩:=I.list d
  show SeqAt.notIn_listAt (vm x) f.isList (λw hw=>gP j g r e w (by simpa using hw)) ⟨.bl _,H,I,rfl,?_⟩;rwa[show c.toArray.any (vm x)=c.any (vm x)by simp,kL r e]
 ·let⟨c,r,f,l⟩:=I.tuple d
  show SeqAt.notIn_tupleAt (vm x) f (λw hw=>gP j g r e w (by simpa using hw)) ⟨.bl _,H,I,rfl,?_⟩;rwa[show c.toArray.any (vm x)=c.any (vm x)by simp,kL r e]
def fT:bQ X (.builtin "len") (λxs H Q=>∃p ys,xs=[.ref p]/\(bG X.K H p ys\/dg X.K H p ys)/\Q (.int ys.length) H):=by
 intro pins s σ H xs us Q I r h;let⟨p,ys,rfl,hq,q⟩:=h;let⟨u,rfl,rx⟩:=vals1 r;ext rx;let hn:=iT
 rcases hq with hq|hq
 ·let⟨its,r',pl,hz⟩:=I.list hq
  let hlen:=r'.length;show Calls.call_len_list pl.isList (by simp only[NM]<;>lia) ⟨.int ys.length,H,I.tok _,⟨s.toks+1,by rw[NM,hlen]⟩,q⟩
 ·let⟨its,r',pl,hz⟩:=I.tuple hq
  let hlen:=r'.length;show len_tuple pl (by simp only[NM]<;>lia) ⟨.int ys.length,H,I.tok _,⟨s.toks+1,by rw[NM,hlen]⟩,q⟩
def kH:bQ X (.builtin "len") (λxs H Q=>∃z,xs=[.str z]/\z.length<=sizeLine/\Q (.int z.length) H):=by intro pins s σ H xs us Q I r h;let⟨z,rfl,hz,q⟩:=h;show X_12 (λu R1=>X_11 λt R3=> ?_) (vals1 r);subst R1 R3;let hn:=iT;show len_str 00 ⟨.int z.length,H,I.tok _,⟨_,rfl⟩,q⟩
def kG:bQ X (.type "list") (λxs H Q=>∃p ys,xs=[.ref p]/\(bG X.K H p ys\/dg X.K H p ys)/\∀l,H l=none->Q (.ref l) (upd H l (.lst ys))):=by
 intro pins s σ H xs us Q I r h;let⟨p,ys,rfl,hq,q⟩:=h;let⟨u,rfl,rx⟩:=vals1 r;ext rx
 let fin:∀its,aQ ys its->ys.length<=sizeLine->∀h' c',(∀b o',s.heap.get? b=some o' ->h'.get? b=some o') -> h'.get? s.heap.objs.size=some {cls:=.type "list",dict:=none,data:=.seq its.toArray c',slots:= #[]}->EP X pins σ Q (.ref s.heap.objs.size) {s with heap:=h'}:=λits r' hz h' c' kp e =>⟨.ref s.heap.objs.size,_,I.laid kp (NB _) (show aw X.prog X.w _ h' _ (.lst ys)from⟨hz,its,c',r',e⟩),rfl,q _ (I.hok.fresh (NB _))⟩
 rcases hq with hq|hq
 ·let⟨its,r',pl,hz⟩:=I.list hq
  let hlen:=r'.length;show X_13 (λo ho hc=>X_11 λn hd=> ?_) pl.isList;show call_list_seq p (.inl rfl) ho hc hd (λh' c' kp e=>fin its r' hz h' c' kp e) (by simp only[NM]<;>lia)
 ·let⟨its,r',pl,hz⟩:=I.tuple hq
  let hlen:=r'.length;show X_13 (λo ho hc=>X_11 λn hd=> ?_) pl;show call_list_seq p (.inr rfl) ho hc hd (λh' c' kp e=>fin its r' hz h' c' kp e) (by simp only[NM]<;>lia)
def eS:bQ X (.type "tuple") (λxs H Q=>∃p ys,xs=[.ref p]/\((bG X.K H p ys/\∀l,H l=none->Q (.ref l) (upd H l (.tup ys)))\/(dg X.K H p ys/\Q (.ref p) H))):=by
 intro pins s σ H xs us Q I r h;obtain⟨p,ys,rfl,h⟩:=h;let⟨u,rfl,rx⟩:=vals1 r;ext rx
 rcases h with⟨hq,q⟩|⟨hq,q⟩
 ·let⟨its,r',pl,hz⟩:=I.list hq
  let hlen:=r'.length;show call_tuple_list pl.isList (λh' kp=> ?_) (by simp only[NM]<;>lia);let I1:=I.kept (t' :=s.toks) kp
  let I2:=
   I1.laid (t' :=s.toks) (λb o e=>M3 _ e) (NB _) (show aw X.prog X.w _ _ _ (.tup ys)from⟨hz,its,r',kq.new _ _⟩)
  exists .ref h'.objs.size,_,I2,rfl,q _ (I1.hok.fresh (NB _))
 ·let⟨its,r',pl,hz⟩:=I.tuple hq
  show call_tuple_same pl ⟨.ref p,H,I,rfl,q⟩
def tyV(K:W.Frag)(T:String)(x:V)(H:Hp):Prop:=match x with
 | .str _=>T="str"| .int _=>T="int"| .ref p=>(T="list"/\∃d,bG K H p d)\/(T="tuple"/\∃d,dg K H p d) \/ (T="dict"/\((∃c,H p=some (.dK c))\/∃c,H p=some (.dT c)))\/(T="set"/\∃S n,H p=some (.set S n))|_=>False
def AR{s:Shared}(I:Inv X g y H s)(r:RelV x v)(j:tyV X.K T x H) :
  s.TypeIs v T/\∀a,v=.ref a->∃w,s.heap.get? a=some w/\w.dict=none:=by
 cases x with
 |str z =>let⟨t,rfl⟩:=r;cases(show T="str" from j);show⟨QH s z t,λ_ e=>nomatch e⟩
 |int i =>let⟨t,rfl⟩:=r;cases(show T="int" from j);show⟨typeIs_int s i t,λ_ e=>nomatch e⟩
 |ref p =>
  ext r
  rcases j with⟨rfl,D,m⟩|⟨rfl,D,m⟩|⟨rfl,f⟩|⟨rfl,S,n,f⟩
  ·let⟨E,_,q,_⟩:=I.list m
   show⟨q.isList.typeIs,λa e=> ?_⟩;ext e;let⟨o,n,e,c,A,_⟩:=q;exists o,e,A
  ·let⟨o,u,h,C⟩:=I.tupleD m
   show⟨⟨o,u,h⟩,λa e=> ?_⟩;ext e;exists o,u,C
  ·let z:∃o,s.heap.get? p=some o/\o.ExactDict:=by
    rcases f with⟨l,f⟩|⟨l,f⟩
    ·show X_03 (λ_ _=>X_12 λ_ _=>X_33 λo _ _ e d _=> ?_) (I.hok p _ f)
     exists o,e,d
    ·show X_03 (λ_ _=>X_12 λ_ _=>X_33 λo _ _ e d _=> ?_) (I.hok p _ f)
     exists o,e,d
   let⟨o,e,d⟩:=z;show⟨⟨o,e,d.1⟩,λa h=> ?_⟩;ext h;exists o,e,d.2.1
  ·show X_41 (λo _ _ _=>X_03 λe d _=> ?_) (I.hok p _ f)
   show⟨⟨o,e,d.1⟩,λa h=> ?_⟩;ext h;exists o,e,d.2.1
 |_=>show False.elim j
def tBM0(K:W.Frag)(T:String)(r:V->List V->Hp->VK->Prop)(c:TE):TE:=λσ H Q=>c σ H λx H1=>tyV K T x H1/\r x [] H1 Q
def tBM(K:W.Frag)(T:String)(r:V->List V->Hp->VK->Prop)(c:TE)(t:TA):TE:=λσ H Q=>c σ H λx H1=>tyV K T x H1/\t σ H1 λxs H2=>r x xs H2 Q
variable{o e:Expr}{es:List Expr}{to:TE}{t:TA}{name:Str}{apos cpos:Pos}{T id:String}{r:V->List V->Hp->VK->Prop}
def pq(z:PlainAttrs T)(g:Slot T name id)(i:typeOf (.builtin id)=pure (.type "method_descriptor"))(w:GB X id r)(q:PE X o to)
  (f:attributeBase o name X.env (eval o X.env)=eval o X.env:=by rfl) (d:(apos.endLine==cpos.line)=true:=by rfl):PE X (.Call (.Attribute o name apos) [] [] cpos) (tBM0 X.K T r to):=by
 intro c s j H Q I h;show wpAny_Call_method0_late f d (ar (q c s j H _ I h) λv s1 hpq=> ?_);let⟨x,n,m,l,p,y⟩:=hpq;let⟨u,A⟩:=AR m l p;exists T,id,z,g,i,u,A,QD rfl (PySem.evalArgs_none (w c s1 j n x [] v [] Q m l .nil y))
def gJ(J:PlainAttrs T)(j:Slot T name id)(l:typeOf (.builtin id)=pure (.type "method_descriptor"))(C:GB X id r)(z:PE X o to)(E:PA X (e::es) t)
  (g:attributeBase o name X.env (eval o X.env)=eval o X.env:=by rfl)
  (i:((backTo cpos (starEach (e::es) X.env)).all (λx=> !x.1)&&(backToKw cpos (keywordEach [] X.env)).all (λx=>x.1.isSome) && decide ((e::es).length+([]:List Keyword).length+(if([]:List Keyword).isEmpty then 0 else 1)<30))=true:=by rfl)
  (f:(apos.endLine==cpos.line)=true:=by rfl) (u:starEach (e::es) X.env=(false,eval e X.env)::starEach es X.env:=by rfl) (d:(backTo cpos (starEach es X.env)).any (·.1)=false:=by rfl) :
  PE X (.Call (.Attribute o name apos) (e::es) [] cpos) (tBM X.K T r to t):=by
 intro c s m H Q I h;show wpAny_Call_method_late g i f rfl (ar (z c s m H _ I h) λv s1 hpq=> ?_);let⟨x,w,q,n,y,D⟩:=hpq;let⟨A,L⟩:=AR q n y;exists T,id,J,j,l,A,L,?_;let p:=E cpos c s1 m w _ q D;rw[u]at p ⊢;show QD (by change(false||(backTo cpos (starEach es X.env)).any (·.1))=false;rw[d]<;>rfl) (Calls.evalArgs_plain ?_);show ar p λus s2 ⟨vs,H2,I2,r2,q2⟩=>C c s2 m H2 x vs v us Q I2 n r2 q2
end
def MtM(X:Cx)(d:String)(r:V->List V->Hp->VK->Prop):Prop :=
 ∀(a:List (Addr×Obj))(s:Shared)(c:St)(H:Hp)(x:V)(b:List V)(v:Value)(us:List Value)(Q:VK),Inv X a c H s->RelV x v->aQ b us->r x b H Q -> wpAny (model X.prog X.w) X.A (call (.builtin d) (v::us)) (EP X a c Q) X.xe s
theorem aQ.one{us:List Value}(h:aQ [x] us):∃u,us=[u]/\RelV x u:=vals1 h
theorem aQ.two{us:List Value}(h:aQ [x,y] us):∃u v,us=[u,v]/\RelV x u/\RelV y v:=vals2 h
theorem aQ.zero:∀{us:List Value},aQ [] us->us=[]
 |_,.nil=>rfl
def aQ.dropLast{us:List Value}(h:aQ a us):aQ a.dropLast us.dropLast:=by
 induction h with
 |nil=>show .nil|cons r t b =>
  cases t with
  |nil=>show .nil|cons q c =>show .cons r b
def aQ.reverse{us:List Value}(h:aQ a us):aQ a.reverse us.reverse:=by
 induction h with
 |nil=>show .nil|cons r t b=>rw[Py,Py];show aQ.append b (.cons r .nil)
theorem aQ.rep{a:List V}{us:List Value}(h:aQ a us):∀k:Nat,aQ (List.replicate k a).flatten (List.replicate k us).flatten
 |0=>.nil|k+1=>by rw[Ol,Ol,PR,PR];show aQ.append h (aQ.rep h k)
def vk{c:Type}(l:List c):l.eraseIdx (l.length-1)=l.dropLast:=by
 induction l with
 |nil=>rfl|cons a r d =>
  cases r with
  |nil=>rfl|cons b r =>
   let e:(a::b::r).length-1=((b::r).length-1)+1:=by let f:(a::b::r).length=r.length+2:=rfl;let g:(b::r).length=r.length+1:=rfl;lia
   rw[e,List.eraseIdx_cons_succ,d]
   all_goals rfl
theorem foldl_rep(a:List Value):∀(k:Nat)(b:List Value),List.foldl (λx1 x2=>x1++x2) b.toArray (List.replicate k a.toArray)=(b++(List.replicate k a).flatten).toArray
 |0,b=>by simp|k+1,b=>by
  let e:b.toArray++a.toArray=(b++a).toArray:=by simp
  let c:(b++a)++(List.replicate k a).flatten=b++(List.replicate (k+1) a).flatten:=by rw[Ol,PR,PU]
  rw[<- c,<-foldl_rep a k (b++a),<-e,Ol,List.foldl_cons]
section
variable{X:Cx}{pins:List (Addr×Obj)}{σ:St}{H:Hp}{s:Shared}{l b:Addr}{xs ys zs:List V}
def Inv.lset{a its':List Value}(I:Inv X pins σ H s)(d:H l=some (.lst xs))
  (e:s.heap.get? l=some {cls:=.type "list",data:=.seq a.toArray n}) (h:f a.toArray=its'.toArray) (i:aQ ys its') (g:ys.length<=sizeLine) :
  Inv X pins σ (upd H l (.lst ys)) {s with heap:=s.heap.update l (Obj.mapSeq f),toks:=c}:=by
 let q:=PySem.IsL.update e f;rw[h]at q;show I.write (by rw[d];show trivial) (.inl rfl) (λb' u hb hu=>(Nt s.heap (Obj.mapSeq f) (OC hb)).trans hu) ⟨_,q⟩ ?_;show⟨g,its',_,i,q⟩
theorem Inv.lnew{t':Nat}(I:Inv X pins σ H s)(d:aQ ys a)(c:ys.length<=sizeLine) :
  Inv X pins σ (upd H s.heap.objs.size (.lst ys)) {s with heap:=s.heap.push {cls:=.type "list",data:=.seq a.toArray},toks:=t'} :=
 I.laid (λ_ _ q=>M3 _ q) (NB _) ⟨c,a,0,d,NR _ rfl⟩
theorem Inv.fresh(I:Inv X pins σ H s):H s.heap.objs.size=none:=I.hok.fresh (NB _)
def Inv.lstM(I:Inv X pins σ H s)(c:H l=some (.lst xs)):xs.length<=sizeLine/\∃(a:List Value)(n:Nat),aQ xs a/\xs.length=a.length/\s.heap.get? l=some {cls:=.type "list",data:=.seq a.toArray n}:=by show X_02 (λz=>X_22 λa n r e=> ?_) (I.hok l _ c);show⟨z,Y_23 a n r r.length e⟩
def Bu(h:n<=sizeLine):Builtin.List.listTooLong n=false:=by show Nu 00
end
section
variable{X:Cx}
def EM:V->List V->Hp->VK->Prop:=λx vs H Q=>∃l a y,x=.ref l/\vs=[y]/\H l=some (.lst a)/\a.length<sizeLine/\Q .non (upd H l (.lst (a++[y])))
def gv:MtM X "list.append" EM:=by intro b s i H x m v us Q I d g h;let⟨l,p,y,rfl,rfl,c,o,q⟩:=h;ext d;let⟨u,rfl,f⟩:=g.one;show X_02 (λz=>X_23 λa n r j e=> ?_) (I.lstM c);show Pi F.slot_list_append ⟨_,e,rfl⟩ F.entry_list_append (F.args_list_append_2 _ _) (PySem.list_append l a.toArray n u (by rw[NM];lia)) ⟨e,?_⟩;exists .non,_,I.lset c e 03 (r.append (.cons f .nil)) ?_,rfl,q;rw[NO,PM];lia
def rPop:V->List V->Hp->VK->Prop:=λx vs H Q=>∃l a y,x=.ref l/\vs=[]/\H l=some (.lst a)/\a[a.length-1]? =some y/\Q y (upd H l (.lst a.dropLast))
def By:MtM X "list.pop" rPop:=by
 intro d s w H x A v us Q I j o h;let⟨l,C,y,rfl,rfl,f,i,q⟩:=h;ext j;let c:=o.zero;subst c;show X_02 (λz=>X_23 λa n r g e=> ?_) (I.lstM f);let⟨u,p,m⟩:=r.get i;let b :a.toArray[a.toArray.size-1]? =some u:=by change a.toArray[a.length-1]? =some u;rwa[<- OW,<-g]
 show Pi F.slot_list_pop ⟨_,e,rfl⟩ F.entry_list_pop (F.args_list_pop_1 _) (MeetsSeq.list_pop_last l a.toArray n u b (by rw[NM];lia)) ⟨e,?_⟩;exists y,_,I.lset f e ?_ r.dropLast ?_,m,q
 ·change a.toArray.eraseIdxIfInBounds (a.toArray.size-1)=a.dropLast.toArray
  rw[NM,List.eraseIdxIfInBounds_toArray,vk]
 ·rw[List.length_dropLast]
  lia
def rCat:R2:=λx y H Q=>∃l b a c,x=.ref l/\y=.ref b/\H l=some (.lst a)/\H b=some (.lst c)/\a.length+c.length<=sizeLine/\∀p,H p=none->Q (.ref p) (upd H p (.lst (a++c)))
def IL:fH X (binaryOp .Add) rCat:=by
 intro d s A H x y v u Q I i w h;show X_41 (λl b J D=>X_06 λR4 R5 j f E q=> ?_) h;subst R4 R5;ext i;ext w;show X_02 (λz=>X_23 λc n r C e=> ?_) (I.lstM j);show X_02 (λK=>X_23 λa L g m p=> ?_) (I.lstM f);show PySem.P.add_list e p ?_ (by rw[NM,NM];lia);let o:c.toArray++a.toArray=(c++a).toArray:=by simp
 rw[o];exists .ref _,_,I.lnew (r.append g) (by rw[NO];lia),rfl,q _ I.fresh
def rRep:R2:=λx y H Q=>∃l k a,x=.ref l/\y=.int k/\H l=some (.lst a)/\ -(2^63)<=k/\k<2^63/\a.length*k.toNat<=sizeLine /\ ∀p,H p=none->Q (.ref p) (upd H p (.lst (List.replicate k.toNat a).flatten))
def Eu{b:Type}(a:List b)(k:Nat):(List.replicate k a).flatten.length=k*a.length:=by
 induction k with
 |zero=>simp|succ k c=>rw[Ol,PR,NO,c,QJ,Nat.add_comm]
def Bc:fH X (binaryOp .Mult) rRep:=by
 intro pins s σ H x y v u Q I rx ry h;show X_31 (λl k xs=>X_07 λR3 R4 hH h1 h2 hz q=> ?_) h;subst R3 R4;ext rx;let⟨t,rfl⟩:=ry;show X_02 (λz=>X_23 λits n r hl e=> ?_) (I.lstM hH);let hlen:its.toArray.size*k.toNat<=sizeLine:=by rwa[NM,<-hl]
 let hcap:¬its.toArray.size*k.toNat>(2^63-1)/8:=by
  have:sizeLine<=(2^63-1)/8:=by decide
  lia
 let hfit:¬(!Builtin.List.listFitsIndex k)=true:=by rw[fitsIndex_both h1 h2];show ND
 let hlong:¬Builtin.List.listTooLong (its.toArray.size*k.toNat)=true:=by rw[Bu hlen];show ND
 let hnew:List.foldl (λx1 x2=>x1++x2) #[] (List.replicate (if its.toArray.isEmpty=true then 0 else k.toNat) its.toArray)=(List.replicate k.toNat its).flatten.toArray:=by
  let f0:=λm=>by have:=foldl_rep its m [];rwa[QE]at this
  rw[f0];cases its with
  |nil=>simp|cons a r' =>rw[NJ 03]
 show wpAny_binaryOp_repeat_ref 02 ⟨_,e,rfl⟩ (λs' =>typeIs_int s' k t) noFill_list_mul F.fills_int_mul F.slot_int_rmul repeat_list F.slot_int_index.lookup
  (Pi F.slot_int_rmul (typeIs_int s k t) F.entry_int_rmul (F.args_int_rmul_2 _ _) (int___rmul___int_list k t l its.toArray n) ⟨e,rfl,⟨_,e,rfl⟩,Pi F.slot_list_mul ⟨_,e,rfl⟩ F.entry_list_mul (F.args_list_mul_2 _ _) (AutoListH.list___mul___list_int_3 l its.toArray n k t hfit hcap hlong) ⟨e,?_⟩⟩)
 rw[hnew];exists .ref _,_,I.lnew (r.rep k.toNat) (by rwa[Eu,Nat.mul_comm]),rfl,q _ I.fresh
end
end L2
namespace Att
open PySem PySem.W PySem.Calls PyProof.Rows
open H
def lH{P:Params}:∀(c:List Int)(d:List Value),WellAll P h d (c.map WData.int)->IntsAre d c:=by
 intro c
 induction c with
 |nil =>intro d w;ext w;show .nil
 |cons n c e =>
  intro d w;cases w with
  |cons a b =>ext a;show .cons _ _ (e _ b)
def ye{l:OpenLaw}(u:l.most=some n){P:Params}{h:Heap}{args:List WData}
  (c:l.row.toRowW.claim.pre args=true) (m:WellAll P h e args) :
  ∃a q b,e=[Value.ref a]/\args=[WData.list (b.map WData.int)]/\h.get? a=some {cls:=.type "list",data:=.seq q.toArray}/\IntsAre q b/\b.length<=n:=by
 let⟨d,r,rfl,x,A⟩:=hasAllW_cons ((pre_splitW c).1);obtain rfl:=hasAllW_nil A;let⟨C,rfl,y⟩:=hasW_list x;let⟨b,rfl⟩:=items_int y;let f:b.length<=n:=by
  let i:(WTm.not (.lt (.lit (.int n)) (.len (.arg 0)))).holds [] {args:=[.list (b.map .int)]}=true:=by let i:=(holds_andW ((pre_splitW c).2)).1;rwa[u]at i
  let j:=condW_of i (w_not (w_lt w_lit (w_len_list (w_arg rfl))));show Nat.le_of_not_lt λq=> ?_;let z :n<((b.length:Nat):Int):=by lia
  first
   |(rw[NX z]at j;show absurd j 02)
   |(simp at j;lia)
 cases m with
 |cons w s =>
  ext s;cases w with
  |list v g=>exists _,_,b,rfl,rfl,v,lH b _ g,f
theorem yr(l:OpenLaw)(args:List WData):l.row.toRowW.claim.post args (.bool true) args=true :=
 postW_of
  (show WShape.has [] (.bool true) .bool=true by first|rfl|decide|simp[WShape.has,WShape.arms,WShape.armsAll])
  (show(WTm.eq .res (.lit (.bool true))).value [] {args:=args,res:=some (.bool true),after:=args}=some (.bool (true==true))from w_eq_bool (w_res rfl) w_lit) rfl
def ug{l:OpenLaw}{K:(Str->Option Value)->Heap->Prop}{d:DefRec}
  (R:l.most=some n) (C:d.params.defaults=[])
  (m:∀(w:World)(c b:Shared)(x E:Str->Option Value)(j:Addr)(o:Obj)(D y h:Value)(a:Addr)(i:List Value)(v:List Int),Ground q e [] K w c x E b.heap->J w b.heap -> b.heap.get? j=some o->o.data=.func (docDef d.name d.params d.body d.scope D y h)->b.heap.CodeRec y d.name->x d.name=some (.ref j) -> b.heap.get? a=some {cls:=.type "list",data:=.seq i.toArray}->IntsAre i v->v.length<=n->b.gens= #[] -> codeAny (model l.prog w) callerA (.call (.ref j) ⟨[.ref a],[]⟩) (λr s' =>r=.ok (.ret (.bool true))/\OldK b.heap s'.heap/\s'.os=b.os/\AllBare s'.gens) b) :
  WalkO q e K J l.row.toRowW d [] (λf i=>PySem.call f i):=by
 intro w c b x E G Y j o D y h O Q S N A I H T args M as u L U z W;obtain rfl:O=.none:=Dflts.none I C;obtain rfl:Q=.none:=Dflts.noKw I;let⟨a,i,v,rfl,rfl,p,g,s⟩:=ye R u z;show enter_call (QB (m w c b x E j o D y h a i v G Y S (fd_plain N) A H p g s T) λr s' hq=> ?_);let⟨rfl,h2,Z,X⟩:=hq;show⟨.inl (Y_35 (.bool true) (.bool true) ([]) rfl (λ_=>rfl) (.bool true) (yr l _) (λ_=>⟨List.Pairwise.nil,λ_ hm=>(nomatch hm)⟩)),h2,Z,X⟩
end Att
namespace L2
open PySem PySem.Spec PyProof.Rows
open H
def yN(h:IntsAre b a):aQ (a.map V.int) b:=by
 induction h with
 |nil=>show .nil|cons n t h c=>show .cons ⟨t,rfl⟩ c
def J9(H:Hp):Prop:=∀b,H b=none\/∃o a,H b=some (.frz o (.lst a))
def CG{P:Program}{K:W.Frag}{CX:wJ}{k:Nat}{c:Shared}{y:List Value}{L:List Int}
  (KX:K.In c.heap) (D:c.heap.Ns mainGlobals J) (g:c.heap.Ns builtinsNs mb) (Y:∀x:Str,x≠"__name__"->mb x=bootBuiltins x) (Q:c.heap.NoLimit) (hg:c.gens= #[])
  (S:c.heap.get? a=some {cls:=.type "list",data:=.seq y.toArray}) (hi:IntsAre y L) (hl:L.length<=sizeLine) (hr:ck k callerA)
  (F:∀i:Heap,K.In i->i.Ns mainGlobals J->bI P w K J i CX k T fd [x] sp) (A:∀(s:Shared)(u:Value),BindsTo s fd ⟨[u],[]⟩ [(x,u)])
  (U:∀H:Hp,J9 H->bG K H a (L.map V.int)->sp [.ref a] H (λv _=>v=.bl true) λ_ _ _=>False)
  (a0:∀H e j,CX [] H c (λ_ _ _=>False) e j ->False) :
  codeAny (model P w) callerA (.call (.ref T) ⟨[.ref a],[]⟩) (λr j =>r=.ok (.ret (.bool true))/\OldK c.heap j.heap/\j.os=c.os/\AllBare j.gens) c:=by
 let rv:=yN hi;let La:=hi.length
 let p:∀H,J9 H->bG K H a (L.map V.int)->eO P w H c.heap->(∀b,H b≠none->b=a)->(H a≠none->K.lookup a=none) -> codeAny (model P w) callerA (.call (.ref T) ⟨[.ref a],[]⟩) (λr j =>r=.ok (.ret (.bool true))/\OldK c.heap j.heap/\j.os=c.os/\AllBare j.gens) c:=by
  intro H hO hS O hA hK;let f:∀{b:Addr}{o:Obj},c.heap.get? b=some o->H b=none->(qP c.heap H).get? b=some o:=λe n=>CU e n;let X:∀{b:Addr}{o:Obj}{I:Array DictEntry}{R:Nat},c.heap.get? b=some o->o.data=.dict I R->H b=none:=λ{b o I R} e d=>by
   cases q:H b with
   |none=>rfl|some u =>let e' :=hA b (by rw[q];simp);subst e';rw[S]at e;ext e;let d' :=d;ext d'
  let l:∀{b:Addr}{m:Str->Option Value},c.heap.Ns b m->(qP c.heap H).Ns b m:=λ{b m} ⟨o,I,R,e,d,r⟩=>⟨o,I,R,f e (X e d),d,r⟩
  let E:=λb o e=>f (KX b o e) (by
   cases q:H b with
   |none=>rfl|some u =>let e' :=hA b (by rw[q];simp);subst e';rw[hK (by rw[q];simp)]at e;ext e)
  let hM:Mod K J (qP c.heap H):=⟨E,l D,Y_12 mb (l g) Y,let⟨mc,h1,h2⟩:=Q;⟨mc,l h1,h2⟩⟩;let e0:wI P w K J (qP c.heap H) callerA [] c H:=⟨rfl,hM,λb o e=>Eh e,Nat.le_of_eq (zJ _ _),trivial,λb g=>absurd (show b∈([]:List Addr)from g) 03,O,.of_eq hg⟩;show QB ((F _ E (l D)).run callerA [] c H ⟨[.ref a],[]⟩ [.ref a] [.ref a] _ _ hr e0 (A c (.ref a)) (.cons rfl .nil) (U H hO hS)) λr j h=> ?_;cases r with
  |error e=>show(a0 H e j h).elim|ok fl =>
   cases fl with
   |next=>show False.elim h|brk=>show False.elim h|cont=>show False.elim h|ret u =>
    let⟨v,H',os,N,un,C,r',q⟩:=h;let q' :=q;subst q';obtain rfl:u=Value.bool true:=r';show⟨rfl,OldK.of_keep λb o e=> ?_,os,N⟩;cases q:H b with
    |none=>show un.keep b o e q (by intro z;show absurd (show b∈([]:List Addr)from z) 03) 03|some u =>
     rcases hO b with z|⟨ob,xs,z⟩
     ·rw[q]at z;ext z
     ·let⟨e1,_⟩:=O b _ z;let⟨e2,_⟩:=C b _ (un.frzs b ob _ z);rw[e]at e1;ext e1;show e2
 cases Z:K.lookup a with
 |some o =>let e:=KX a o Z;rw[S]at e;ext e;show p (λ_=>none) (λ_=>.inl rfl) (.inr (Y_36 _ y.toArray _ Z rfl rfl rfl (by rwa[NM,La]) (by simpa using rv))) (λb u z=>by let M :=z;ext M) (λb z=>absurd rfl z) λz=>absurd rfl z
 |none =>
  show p (λb=>if b=a then some (.frz {cls:=.type "list",data:=.seq y.toArray} (.lst (L.map V.int)))else none) (λb=> ?_) (.inl (.inr ⟨{cls:=.type "list",data:=.seq y.toArray},M9 rfl⟩)) (λb u z=> ?_) (λb z=> ?_) λ_=>Z
  ·by_cases g:b=a
   ·show .inr (Y_21 _ _ (M9 g))
   ·show .inl (NJ g)
  ·by_cases g:b=a
   ·let M :=(M9 g).symm.trans z
    ext M;subst g;show⟨S,by rwa[M0],y,_,rv,S⟩
   ·let M :=(NJ g).symm.trans z
    ext M
  ·by_cases g:b=a
   ·show g
   ·show absurd (NJ g) z
def Dh{l:W.OpenLaw}{n k:Nat}{d:DefRec}{K:Params->W.Frag}{CX:World->wJ}{sp:World->Sp}{x:Str}
  (L:l.most=some n) (C:n<=sizeLine) (z:d.params.defaults=[]) (O:ck k callerA)
  (J:∀(w:World)(h:Heap),I w h->(K w.params).In h)
  (F:∀(w:World)(j:Str->Option Value)(m:Addr)(h:Heap),(K w.params).In h->h.Ns mainGlobals j->j d.name=some (.ref m) -> ∃D:FuncData,(∀(s:Shared)(u:Value),BindsTo s D ⟨[u],[]⟩ [(x,u)]) /\ ∀c:Heap,(K w.params).In c->c.Ns mainGlobals j->bI l.prog w (K w.params) j c (CX w) k m D [x] (sp w))
  (r:∀(w:World)(H:Hp)(a:Addr)(p:List Int),p.length<=n->J9 H->bG (K w.params) H a (p.map V.int)->sp w [.ref a] H (λv _=>v=.bl true) λ_ _ _=>False)
  (y:∀(w:World)(H:Hp)(s:Shared)(e:Value)(A :Shared),CX w [] H s (λ_ _ _=>False) e A ->False) :
  W.WalkO q i N I l.row.toRowW d [] (λf vs=>PySem.call f vs):=by
 show Att.ug L z λw s₀ s₁ j mb m o pm cd doc a vs p G Y ho hd hcd hmg hobj hints hlen hg=> ?_;let E:=J w _ Y;let⟨D,M,Q⟩:=F w j m _ E G.T.g hmg;show CG E G.T.g G.T.b G.T.builtins G.T.nolimit hg hobj hints (Nd hlen C) O Q M (λH hO hS=>r w H a p hlen hO hS) λH e A =>y w H s₁ e A
abbrev eU:wJ:=λ_ _ _ _ _ _=>False
abbrev E0:XK:=λ_ _ _=>False
theorem cY:qu eU X E0:=λ_ _ _ _ _ _ _ h=>h.elim
structure KW(K:W.Frag)(x qual:Str)(st:Stmt)(f:Addr)(fd:FuncData):Prop where
 ex:∃(oc:Value)(od:Option Addr)(kV doc pm:Value)(an:Option Addr)(cdv ct:Value)(osl:Array (Option Value)),
  fd=W.fnOf x qual (cF st) (bO st) (aI st) .none kV doc pm an cdv ct/\K.lookup f=some ⟨oc,od,.func fd,osl⟩/\W.codeIn K cdv qual=true
 kp:W.keepIn K (.ref f)=true
section
variable{P:Program}{w:World}{K:W.Frag}{mg:Str->Option Value}{base:Heap}
def KW.ok{qual:Str}{m:FuncData}{k:Nat}(F:KW K x qual e f m)(S:bA N g (aI e))(l:∀d H Q E,j d H Q E->d.length=g.length)
  (c:∀(b:Value)(A:Around)(a:List Env)(s:Shared)(H:Hp)(d:List V)(Q:VK)(E:XK),ck k (A.deeper (envOfC qual (aI e) s.heap.objs.size f b))->j d H Q E -> ∃t,rA (iC eU P w K mg base N qual (aI e) f b A a s H E).nox (bO e) t/\t {nx:=λ_ H' =>Q .non H',rt:=Q} (start N d) H):bI P w K mg base eU (k+1) f m g j:=by
 show X_91 (λr v u n z y b ct p=>X_03 λR9 o i=> ?_) F.ex;subst R9;show xX o i S l λA a s H d Q E hr hsp=> ?_;let⟨t,h,q⟩:=c b A a s H d Q E hr hsp;exists t,h.nox,q
def KW.binds{qual:Str}(F:KW K x qual c f j)
  (h:∀(d a i:Value)(g:Option Addr)(b ct:Value)(us:List Value),us.length=e.length->bindArgs (W.fnOf x qual (cF c) (bO c) (aI c) .none d a i g b ct) ⟨us,[]⟩=pure (e.zip us)):Binds K j e []:=by
 show X_91 (λo p d a i g b ct m=>X_03 λR9 n l=> ?_) F.ex;subst R9;show .all (h d a i g b ct)
theorem CY{qual:Str}{m:Value}{ct:Value}(l:K.lookup f=some ⟨m,j,.func (W.fnOf x qual (cF d) (bO d) (aI d) .none i b g h a ct),e⟩)
  (c:W.codeIn K a qual=true) (k:W.keepIn K (.ref f)=true):KW K x qual d f (W.fnOf x qual (cF d) (bO d) (aI d) .none i b g h a ct):=⟨⟨m,j,i,b,g,h,a,ct,e,rfl,l,c⟩,k⟩
end
theorem CT{A:Around}{k:Nat}(a:ck k A):A.units+1<cLine:=Oh (Nat.add_le_add_left (by decide:1<=64) _) a.units
section
variable{X:Cx}
theorem pv(i:Nat)(b:X.N[i]? =some x:=by rfl)(d:KS X.env.scope x:=by first|exact Or.inl rfl|exact Or.inr (Or.inl rfl)|exact Or.inr (Or.inr rfl))(c:(x==("__debug__":Str))=false:=by decide)
  (a:(x==("__classdict__":Str))=false:=by decide):PE X (.Name x pos) (HI i):=mF b d c a
end
def lG{A B:Prop}(h:B):if false=true then A else B:=by show h
def kY{A B:Prop}(h:A):if true=true then A else B:=by show h
def E6{c A B:Prop}[Decidable c](a:c->A)(b:¬c->B):if c then A else B:=by
 by_cases h:c
 ·rw[M9 h]
  show a h
 ·rw[NJ h]
  show b h
def aD(H a :Hp):Prop:=∀b o,H b=some o->a b=some o
theorem aD.refl(H:Hp):aD H H:=λ_ _ h=>h
theorem aD.trans(a:aD H e)(b:aD e d):aD H d:=λc o h=>b c o (a c o h)
def aD.free(e:aD H a)(h:a l=Option.none):H l=Option.none:=by
 cases q:H l with
 |none=>rfl|some o =>rw[e l o q]at h;ext h
def aD.seq{K:W.Frag}(e:aD H c)(h:bG K H a b):bG K c a b:=by
 rcases h with(h|⟨o,h⟩)|h
 ·show .inl (.inl (e _ _ h))
 ·show .inl (.inr ⟨o,e _ _ h⟩)
 ·show .inr h
end L2
namespace UM
open PySem PySem.Builtin PySem.Builtin.Str
open H
theorem tS{c:Nat}:∀{a e b d :List Nat},c∉a->c∉e ->a++c::b=e ++c::d ->a=e /\b=d
 |[],[],b,d,_,_,h=>⟨rfl,by simpa using h⟩|[],y::e,b,d,_,h2,h=>by simp only[QE,P7,List.cons.injEq]at h;show absurd (h.1▸M7) h2
 |x::a,[],b,d,h1,_,h=>by simp only[QE,P7,List.cons.injEq]at h;show absurd (h.1▸M7) h1
 |x::a,y::e,b,d,h1,h2,h=>by simp only[P7,List.cons.injEq]at h;let⟨i,g⟩:=h;let⟨j,f⟩:=tS (λz=>h1 (M4 _ z)) (λz=>h2 (M4 _ z)) g;show⟨by rw[i,j],f⟩
def mQ(c:Nat)(x y:Str)(r:List Str):(Str.join ⟨#[c]⟩ (x::y::r)).cps.toList=x.cps.toList++c::(Str.join ⟨#[c]⟩ (y::r)).cps.toList:=by change(x++⟨#[c]⟩++Str.join ⟨#[c]⟩ (y::r)).cps.toList=_;rw[QC,QC];simp
theorem pQ{x:Str}(h:x.cps.toList=y.cps.toList):x=y:=PySem.Str.ext' (Array.toList_inj.mp h)
theorem tY(c:Nat):∀(A B:List Str),A≠[]->B≠[]->(∀p∈A,c∉p.cps.toList)->(∀p∈B,c∉p.cps.toList)->Str.join ⟨#[c]⟩ A=Str.join ⟨#[c]⟩ B->A=B
 |[],_,h,_,_,_,_=>absurd rfl h|_::_,[],_,h,_,_,_=>absurd rfl h|[x],[y],_,_,_,_,e=>by let e' :x=y:=e;rw[e']
 |[x],y::z::r,_,_,h1,_,e=>by
  let e' :x.cps.toList=y.cps.toList++c::(Str.join ⟨#[c]⟩ (z::r)).cps.toList:=by rw[<- mQ,<-e];rfl
  show absurd (by rw[e'];simp) (h1 x 03)
 |x::z::r,[y],_,_,_,h2,e=>by
  let e' :y.cps.toList=x.cps.toList++c::(Str.join ⟨#[c]⟩ (z::r)).cps.toList:=by rw[<- mQ,e];rfl
  show absurd (by rw[e'];simp) (h2 y 03)
 |x::x' ::r,y::y' ::t,_,_,h1,h2,e=>by let e' :=N6 (λs:Str=>s.cps.toList) e;simp only[mQ]at e';let⟨i1,i2⟩:=tS (h1 x 03) (h2 y 03) e';rw[pQ i1,tY c (x' ::r) (y' ::t) 03 03 (λp hp=>h1 p (M4 _ hp)) (λp hp=>h2 p (M4 _ hp)) (pQ i2)]
def Ap(x y:Str):Txt.split x y≠[]:=by
 unfold Txt.split
 split;simp
 ·split
  ·simp
  ·rw[StrLaws.partsBetween_eq]
   let⟨p,r,e⟩:=StrLaws.partsFrom_ne x y.length 0 (occurrences x y 0 x.length (x.length+1));rw[e];simp
theorem iP{c:Nat}(b:a≠[])(h:∀p∈a,c∉p.cps.toList):Txt.split (Str.join ⟨#[c]⟩ a) ⟨#[c]⟩=a := tY c _ _ (Ap _ _) b (StrLaws.split_free _ c) h (StrLaws.join_split _ _)
def tE(z y:Str):(partsBetween z (occurrences z y 0 z.length (z.length+1)) y.length).length<=z.length+2:=by let h:=StrLaws.occ_length_le z y 0 z.length (z.length+1);unfold partsBetween;rw[M0,List.length_zip];simp only[NW,M0,NO,List.length_nil];lia
def split_le(z y:Str):(Txt.split z y).length<=z.length+2:=by
 unfold Txt.split
 split;simp
 ·split
  ·simp
  ·show tE z y
structure cq(m:Nat)(rows:List Str):Prop where
 some:rows≠[]
 few:rows.length<=m
 wide:∃k,1<=k/\k<=m/\∀r∈rows,r.length=k
 signs:∀r∈rows,∀c∈r.cps.toList,c=120\/c=46
theorem cq.free{m:Nat}(b:cq m a):∀p∈a,10∉p.cps.toList:=λp hp hc=>by rcases b.signs p hp 10 hc with h|h<;>ext h
end UM
namespace L2
open PySem PySem.Spec PyProof.Rows
def kB(a:Env):List (Str×NameKind)->List (Str×Addr)->List (Str×Addr)
 |[],acc=>acc|(n,k)::r,acc=>if(k==NameKind.free)=true then kB a r ((n,(a.cells.lookup n).getD 0)::acc)else kB a r acc
open H
def kd{k:NameKind}(h:(k==NameKind.free)=true) :
  kB a ((n,k)::r) b=kB a r ((n,(a.cells.lookup n).getD 0)::b):=by
 change(if(k==NameKind.free)=true then _ else _)=_;rw[M9 h]
def ia{k:NameKind}(h:¬(k==NameKind.free)=true) :
  kB b ((n,k)::r) a=kB b r a:=by
 change(if(k==NameKind.free)=true then _ else _)=_;rw[NJ h]
def uY(h:a.cells.lookup n=some c):cellOf a n=pure c:=by unfold cellOf;rw[h]
def v6{scope:Scope}(h:∀x∈scope.names,x.2=.free->∃c,b.cells.lookup x.1=some c):closureFor scope b=pure (kB b scope.names []):=by
 suffices q:∀l d,(∀x∈l,x.2=.free->∃c,b.cells.lookup x.1=some c) -> (forIn l d (λ x r=>if(x.2==NameKind.free)=true then(do let a<-cellOf b x.1;pure (ForInStep.yield ((x.1,a)::r)))else pure (ForInStep.yield r)):Sem (List (Str×Addr)))=pure (kB b l d)by
  show(N6 (λm=>m >>= pure) (q scope.names [] h)).trans (by rfl)
 intro l
 induction l with
 |nil=>intro d _;rfl|cons x l j =>
  intro d g;obtain⟨n,k⟩:=x;rw[List.forIn_cons]
  by_cases f:(k==NameKind.free)=true
  ·let⟨c,i⟩:=g (n,k) M7 (by simpa using f)
   rw[kd f];simp only[f,O6];rw[uY i];let e:(b.cells.lookup n).getD 0=c:=by rw[show b.cells.lookup n=some c from i];rfl
   rw[e];show j _ λy hy=>g y (M4 _ hy)
  ·rw[ia f]
   simp only[f];show j _ λy hy=>g y (M4 _ hy)
theorem fE{a:Env}:∀{l:List (Str×NameKind)}{b:List (Str×Addr)}{x:Str}{c:Addr},(∀y∈l,y.2=.free->∃c,a.cells.lookup y.1=some c) -> (kB a l b).lookup x=some c->b.lookup x=some c\/a.cells.lookup x=some c
 |[],b,x,c,_,h=>.inl h|(n,k)::l,b,x,c,hl,h=>by
  let d :∀y∈l,y.2=.free->∃c,a.cells.lookup y.1=some c:=λy hy=>hl y (M4 _ hy)
  by_cases f:(k==NameKind.free)=true
  ·rw[kd f]at h
   rcases fE d h with q|q
   ·rw[N8]at q
    cases j:(x==n)with
    |true =>
     let i:x=n:=by simpa using j
     subst i;let⟨m,g⟩:=hl (x,k) M7 (by simpa using f);let e:=g;rw[e]at q
     right
     rw[e]
     simpa using q
    |false =>rw[j]at q;show .inl q
   ·show .inr q
  ·rw[ia f]at h
   show fE d h
theorem kA{env:Env}:∀{l:List (Str×NameKind)}{acc:List (Str×Addr)}{x:Str},((x,NameKind.free)∈l\/∃c,acc.lookup x=some c)->∃c,(kB env l acc).lookup x=some c
 |[],acc,x,h=>by
  rcases h with h|h
  ·ext h
  ·show h
 |(n,k)::l,acc,x,h=>by
  by_cases a:(k==NameKind.free)=true
  ·rw[kd a]
   show kA ?_
   rcases h with h|⟨c,h⟩
   ·rcases NH.mp h with e|e
    ·right
     injection e with e1 e2
     subst e1;show⟨(env.cells.lookup x).getD 0,by rw[N8];simp⟩
    ·show .inl e
   ·right
    rw[N8];cases b:(x==n)with
    |true=>show⟨_,rfl⟩|false=>show⟨c,h⟩
  ·rw[ia a]
   show kA ?_
   rcases h with h|h
   ·rcases NH.mp h with e|e
    ·injection e with e1 e2
     subst e2;show absurd rfl a
    ·show .inl e
   ·show .inr h
section
variable{prog:Program}{w:World}{A:Around}{R:Result->Shared->Prop}{s:Shared}
def qi{scope:Scope}(I:Nat->Shared->Prop)
  (j:∀n s,I n s->wpAny (model prog w) A (pyNext l) (λr s₁=>match r with
   |none=>R (.ok .next) s₁|some v=>wpAny (model prog w) A (letOwnedTupleGo b l v) (λ_ s₁' =>wpAny (model prog w) A (assign b a v) (λ_ s₂ =>
     wpAny (model prog w) A (forIn i true λc r=>if r=true then do let ok<-isTrue c a (eval c a);pure (ForInStep.yield ok)else pure (ForInStep.yield r)) (λok s₃ =>
      if ok=true then wpAny (model prog w) A (eval g a) (λx s₄ =>
       wpAny (model prog w) A (call (.builtin "list.append") [f,x]) (λ_ s₅=>∃m,m<n/\I m s₅) (notedBy (model prog w) A a λe s' =>R (.error e) s') s₄) (notedBy (model prog w) A a λe s' =>R (.error e) s') s₃ else∃m,m<n/\I m s₃) (notedBy (model prog w) A a λe s' =>R (.error e) s') s₂) (notedBy (model prog w) A a λe s' =>R (.error e) s') s₁')
       (notedBy (model prog w) A a λe s' =>R (.error e) s') s₁) (notedBy (model prog w) A a λe s' =>R (.error e) s') s)
  (n:Nat) (h:I n s) :
  codeAny (model prog w) A (.compLoop (.ListComp g [⟨b,d,i,0⟩] scope pos) 0 l f a) R s:=by
 show codeAny_loop rfl I (λn s hI=> ?_) n h;show wpAny_noted ?_;show M1 (Qb (M1 (OR (j n s hI) (λr s₁ h₁=> ?_) λ_ _ h' =>h')));cases r with
 |none=>show NK h₁|some v =>
  show M1 (OR h₁ (λ_ s₁' h₁' => ?_) λ_ _ h' =>h');show M1 (OR h₁' (λ_ s₂ h₂=>M1 (OR h₂ (λok s₃ h₃=> ?_) λ_ _ h' =>h')) λ_ _ h' =>h');cases ok with
  |false=>show NK ⟨rfl,h₃⟩|true =>show M1 (M1 (OR h₃ (λx s₄ h₄=>M1 (OR h₄ (λ_ s₅ h₅=>NK (NK ⟨rfl,h₅⟩)) λ_ _ h' =>h')) λ_ _ h' =>h'))
end
abbrev bU(X:Cx)(e :List Str)(scope:Scope)(C:Addr)(d:Shared)(c:Hp)(b:List Addr)(a:List (Str×Addr)):Cx where
 prog:=X.prog
 w:=X.w
 K:=X.K
 mg:=X.mg
 base:=X.base
 A:=X.A
 N:=e
 s₀:=d
 H₀:=c
 env:=compEnvC scope a C X.env
 outer:=X.stack
 stack:=X.stack
 ex:=b
 fn:=λx=>scope.names.lookup x==some .cell
 calm:=X.calm
 pn:=[]
 xe:=λ_ _=>False
def bn(X:Cx)(scope:Scope):List Str->List (Option Nat)->Prop
 |[],[]=>True|_::ns,none::r=>bn X scope ns r|x::ns,some i::r=>(X.N[i]? =some x/\scope.names.lookup x=some .free/\(X.env.scope.names.lookup x=some .cell\/X.env.scope.names.lookup x=some .free))/\bn X scope ns r|_,_=>False
def bg(a:List (Option Nat))(b:St):St:=a.map λo=>match o with
 |none=>none|some i=>(b[i]?).join
theorem bn.len{X:Cx}{scope:Scope}:∀{b :List Str}{a:List (Option Nat)},bn X scope b a->a.length=b.length
 |[],[],_=>rfl|_::_,none::_,h=>N6 (·+1) (bn.len (show bn X scope _ _ from h))|_::_,some _::_,h=>N6 (·+1) (bn.len h.2)|[],_::_,h=>by ext h|_::_,[],h=>by ext h
theorem bn.at{X:Cx}{scope:Scope}{a:St}:∀{N' :List Str}{src:List (Option Nat)}{j:Nat}{x:Str}{v:V},bn X scope N' src->N'[j]? =some x->(bg src a)[j]? =some (some v) -> ∃i:Nat,X.N[i]? =some x/\a[i]? =some (some v)/\scope.names.lookup x=some .free/\(X.env.scope.names.lookup x=some .cell\/X.env.scope.names.lookup x=some .free)
 |[],[],j,x,v,_,h,_=>by simp at h|y::ns,none::r,0,x,v,_,_,h=>by simp[bg]at h|y::ns,none::r,j+1,x,v,s,h,h' =>bn.at (N' :=ns) (src:=r) (j:=j) s (by simpa using h) (by simpa [bg]using h')|y::ns,some i::r,0,x,v,s,h,h' =>by
  let e:y=x:=by simpa using h
  subst e;let q:(a[i]?).join=some v:=by simpa [bg]using h'
  exists i,s.1.1,?_,s.1.2.1,s.1.2.2;cases z:a[i]? with
  |none=>rw[z]at q;ext q|some o=>rw[z]at q;show N6 some q
 |y::ns,some i::r,j+1,x,v,s,h,h' =>bn.at s.2 (by simpa using h) (by simpa [bg]using h')|[],_::_,_,_,_,s,_,_=>by ext s|_::_,[],_,_,_,s,_,_=>by ext s
def zt(X:Cx)(d:List Expr)(t:TT):Prop :=
 ∀(a:List (Addr×Obj))(s:Shared)(b:St)(H:Hp)(Q:Bool->Hp->Prop),Inv X a b H s->t b H Q -> wpAny (model X.prog X.w) X.A (forIn d true λc r=>if r=true then do let ok<-isTrue c X.env (eval c X.env);pure (ForInStep.yield ok)else pure (ForInStep.yield r)) (TP X a b Q) X.xe s
def rh:TT:=λ_ H Q=>Q true H
theorem gH:zt X [] rh:=λ_ _ _ H _ I h=>wpAny_tests_nil ⟨H,I,h⟩
theorem sj{t:TT}(h:PT X c t):zt X [c] t:=λpins s σ H Q I hw=>wpAny_tests_one (h pins s σ H Q I hw)
def KH(X:Cx)(e :List Str)(d:List (Option Nat))(scope:Scope)(a:Expr)(n:List Expr)(m:Expr)(D:Addr)(o:St)(x:V)(c:List V)(r :Hp)(N:List V->Hp->Prop):Prop :=
 ∀(C:Addr)(i:Shared)(f:Hp)(l:List Addr)(h:List (Str×Addr)),∃(g:TG)(q:TT)(p:TE),PG (bU X e scope C i f l h) a g/\zt (bU X e scope C i f l h) n q/\PE (bU X e scope C i f l h) m p /\ g x (bg d o) r λσ2 H3=>(σ2.length=e.length/\∀(j:Nat)(v:V),(bg d o)[j]? =some (some v)->σ2[j]? =some (some v)) /\ q σ2 H3 λb H4=>if b=true then p σ2 H4 λv H5=>H5 D=some (.lst c)/\c.length<sizeLine/\N (c++[v]) (upd H5 D (.lst (c++[v])))else N c H4
def HJ(X:Cx)(j :List Str)(b:List (Option Nat))(scope:Scope)(a:Expr)(d:List Expr)(c:Expr)(h:TI):TE:=λσ H Q=>h σ H λJ H1=>∀D,H1 D=none -> ∃W:Nat->Nat->List V->Hp->Prop,(∃m,W 0 m [] (upd H1 D (.lst [])))/\∀i m f H,W i m f H -> (J.stop i H/\Q (.ref D) H)\/(J.go i H/\∀x e,J.yld i H x e ->KH X j b scope a d c D σ x f e λys' H'' =>∃g,g <m/\W (i+1) g ys' H'')
section
variable{X:Cx}{pins:List (Addr×Obj)}{σ:St}{H:Hp}{s:Shared}
structure zz(X:Cx)(scope:Scope)(C:Addr)(cl:List (Str×Addr)):Prop where
 ex:∃own,cl=own++kB X.env scope.names []/\(∀n c,(n,c)∈own->C<c/\scope.names.lookup n=some .cell)/\(∀x,(x,NameKind.cell)∈scope.names->∃c,own.lookup x=some c)/\own.Pairwise fun x y=>x.2≠y.2
def zz.sub{scope:Scope}(k:zz X scope C d)(a:∀y∈scope.names,y.2=.free->∃c,X.env.cells.lookup y.1=some c)(e:d.lookup x=some c) :
  (C<c/\scope.names.lookup x=some .cell)\/(scope.names.lookup x≠some .cell\/True)/\X.env.cells.lookup x=some c:=by
 let⟨b,rfl,f,g,i⟩:=k.ex;rw[Oq]at e;cases z:b.lookup x with
 |some h =>rw[z]at e;ext e;show .inl (f x c (Nx z))
 |none =>
  rw[z]at e
  rcases fE a e with q|q
  ·ext q
  ·show .inr ⟨.inr trivial,q⟩
def Fe{N':List Str}{scope:Scope}(I:Inv X pins σ H s)(j:scope.kind=.function)(k:zz X scope C v)
  (p:∀y∈scope.names,y.2=.free->∃c,X.env.cells.lookup y.1=some c) (r:s.heap.objs.size<=C) (N:∀b∈T,kr X pins H b) (E:∀b∈T,b<s.heap.objs.size):(bU X N' scope C s H T v).Ok:=by
 let w:=λx c e=>let⟨_,q⟩:=I.cell x c e;q.lt
 let⟨g,i,M,Z,h3⟩:=k.ex;let f:∀x c,v.lookup x=some c->(x,c)∈g\/X.env.cells.lookup x=some c:=λx c e=>by
  rw[i,Oq]at e;cases z:g.lookup x with
  |some S =>rw[z]at e;ext e;show .inl (Nx z)|none =>
   rw[z]at e
   rcases fE p e with q|q
   ·ext q
   ·show .inr q
 show⟨I.ok.mod,j,I.ok.glob,I.ok.blt,r,λx y c e1 e2=> ?_,λx hx=> ?_,λx c h e=> ?_,I.ok.hd,I.ok.frames,.inl rfl,λb hb=>⟨?_,λx c e=> ?_⟩,I.bs,Nd I.ok.bsz I.sz,λb o e hb=> ?_,λb hb hs=> ?_,I.stack,I.stkFree⟩
 ·rcases f x c e1 with D|D<;>rcases f y c e2 with u|u
  ·show PySem.name_of_addr h3 D u
  ·show absurd (Ot (w y c u) (Oh r (M x c D).1)) (On _)
  ·show absurd (Ot (w x c D) (Oh r (M y c u).1)) (On _)
  ·show I.ok.inj x y c D u
 ·-- a name of the block's that is no local of it is one that it closes over,or has a cell of its g
  let R :=hx;let W:∀k,(k=NameKind.cell\/k=NameKind.free)->(relabel scope X.env).names.lookup x=some k->(x,NameKind.free)∈scope.names\/(x,NameKind.cell)∈scope.names:=λk hk e=>by
   obtain⟨⟨n,L⟩,U,Y⟩:=NA.mp (Nx e)
   by_cases K:L =NameKind.free
   ·subst K
    let d :(if(NameKind.free==NameKind.free&&X.env.scope.kind== .function&&X.env.kindOf n==some .cell)=true then(n,NameKind.cell)else(n,NameKind.free))=(x,k):=Y;let hn:n=x:=by split at d <;>show(Prod.mk.inj d).1
    rw[<- hn];show .inl U
   ·let d :(if(L ==NameKind.free&&X.env.scope.kind== .function&&X.env.kindOf n==some .cell)=true then(n,NameKind.cell)else(n,L))=(x,k):=Y
    let Q:(L ==NameKind.free)=false:=by simpa using K
    rw[Q,QP,QP,NJ ND]at d;let⟨g1,g2⟩:=Prod.mk.inj d;subst g1 g2
    rcases hk with rfl|rfl
    ·show .inr U
    ·show .inl U
  let A:(x,NameKind.free)∈scope.names\/(x,NameKind.cell)∈scope.names->∃c,v.lookup x=some c:=by
   intro z;rw[i]
   rcases z with z|z
   ·obtain⟨c,O⟩:=kA (.inl z)
    rw[Oq];cases g.lookup x with
    |some S =>show⟨S,rfl⟩|none=>show⟨c,O⟩
   ·let⟨c,O⟩:=Z x z
    show⟨c,by rw[Oq,O];rfl⟩
  rcases R with e|e
  ·show A (W _ (.inl rfl) e)
  ·show A (W _ (.inr rfl) e)
 ·let h:scope.names.lookup x=some .cell:=by simpa using h
  let⟨S,J⟩:=Z x (Nx h);let e:v.lookup x=some c:=e;rw[i,Oq,J]at e;ext e;show Nd r (Ou (M x c (Nx J)).1)
 ·show λe=>absurd (E b hb) (by change¬b<_;rw[e];show Nat.not_lt.mpr r)
 ·rcases f x c e with q|q
  ·show λz=>absurd (Ot (E b hb) (Oh r (M x c q).1)) (by rw[z];show On _)
  ·show(N b hb).2.2.2.2.1 x c q
 ·rcases(N b hb).2.2.2.1 with q|q
  ·show I.ok.noex b o e q
  ·show absurd (NQ e) (Nat.not_lt.mpr (Nd I.ok.bsz q))
 ·rcases NH.mp (I.stkSub b hs)with q|q
  ·show(N b hb).2.1 q
  ·show(N b hb).2.2.1 q
theorem cU:∀(names:List (Str×NameKind))(n:Nat)(a b:List (Str×Addr)),cellsFrom n names (a++b)=cellsFrom n names a++b
 |[],_,_,_=>rfl|(x,k)::r,n,a,b=>by
  unfold cellsFrom
  split;show cU r (n+1) ((x,n)::a) b;show cU r n a b
open J in
theorem eR:∀(names:List (Str×NameKind))(n:Nat)(a:List (Str×Addr))(x:Str)(c:Addr),(x,c)∈cellsFrom n names a->(x,c)∈a\/(x,NameKind.cell)∈names
 |[],_,_,_,_,h=>.inl h|(y,k)::r,n,a,x,c,h=>by
  unfold cellsFrom at h
  split at h
  ·rename_i b
   let b:k=.cell:=by simpa using b
   rcases eR r (n+1) ((y,n)::a) x c h with q|q
   ·rcases NH.mp q with e|e
    ·ext e
     rw[b];show .inr M7
    ·show .inl e
   ·show .inr (M4 _ q)
  ·rcases eR r n a x c h with q|q
   ·show .inl q
   ·show .inr (M4 _ q)
def Fk{scope:Scope}(a:∀y∈scope.names,y.2=.cell->scope.names.lookup y.1=some .cell)(h:Heap)(d:h.objs.size=C+1):zz X scope C (cellsFrom (C+1) scope.names (kB X.env scope.names [])):=by
 let b:=cellsFrom_ok scope.names h (C+1) [] ⟨λ_ _ hm=>(nomatch hm),List.Pairwise.nil⟩ (by rw[d];show NB _);rw[d]at b;show⟨cellsFrom (C+1) scope.names [],by rw[<- cU];rfl,λn c hm=>⟨(b.empty n c hm).2,?_⟩,λx hx=> ?_,b.apart⟩
 ·rcases eR _ _ _ _ _ hm with q|q
  ·ext q
  ·show a _ q rfl
 ·have:=W.cellsFrom_some scope.names (C+1) [] (.inl (a _ hx rfl))
  show Option.isSome_iff_exists.mp this
def Ck{A:Around}{s:Shared}{scope:Scope}{globals:Addr}{qual:Str}
  (h:Q {scope:=scope,locals:=s.heap.objs.size,globals:=globals,cells:=cellsFrom (s.heap.objs.size+1) scope.names b,qual:=qual,func:=none,code:=a.code,frame:=a.frame,builtins:=a.builtins} {s with heap:=pushCells (s.heap.push {cls:=.type "dict",data:=.dict #[]}) scope.names}) :
  wpAny M A (newFunctionEnv scope globals b [] qual none .none (some a)) Q E s:=by
 simp only[newFunctionEnv,Option.isSome_some,O6];show M1 (wpAny_alloc ?_);show M1 (wpAny_layCells _ (λname kind cells=>by cases c:kind==NameKind.cell<;>simp[]) _ _ _ _ ?_);rw[show({s with heap:=s.heap.push {cls:=.type "dict",data:=.dict #[]}}:Shared).heap.objs.size=s.heap.objs.size+1 from Of ..];show M1 (NK (NK h))
end
theorem jZ{a:Env}:∀{names:List (Str×NameKind)}{x:Str},names.lookup x=some .free -> (names.map λ(n,k)=>if(k==NameKind.free&&a.scope.kind== .function&&a.kindOf n==some .cell)then(n,NameKind.cell)else(n,k)).lookup x=some .cell \/ (names.map λ(n,k)=>if(k==NameKind.free&&a.scope.kind== .function&&a.kindOf n==some .cell)then(n,NameKind.cell)else(n,k)).lookup x=some .free
 |[],_,h=>by simp at h|(n,k)::r,x,h=>by
  let d:= @jZ a r x;change List.lookup x ((if(k==NameKind.free&&a.scope.kind== .function&&a.kindOf n==some .cell)=true then(n,NameKind.cell)else(n,k))::_)=_\/List.lookup x ((if(k==NameKind.free&&a.scope.kind== .function&&a.kindOf n==some .cell)=true then(n,NameKind.cell)else(n,k))::_)=_;cases b:x==n with
  |true =>
   simp only[N8,b]at h;ext h
   by_cases c:(NameKind.free==NameKind.free&&a.scope.kind== .function&&a.kindOf n==some .cell)=true;left;rw[M9 c];simp only[N8,b];right;rw[NJ c];simp only[N8,b]
  |false =>
   simp only[N8,b]at h
   by_cases c:(k==NameKind.free&&a.scope.kind== .function&&a.kindOf n==some .cell)=true;rw[M9 c];simp only[N8,b];show d h;rw[NJ c];simp only[N8,b];show d h
section
variable{X:Cx}{pins:List (Addr×Obj)}{σ:St}{H:Hp}{s:Shared}
def vy{scope:Scope}{m:Str->Option Value}{tk:Nat}(I:Inv X pins σ H s)(j:scope.kind=.function)(k:zz X scope C p)
  (a:∀y∈scope.names,y.2=.free->∃c,X.env.cells.lookup y.1=some c) (g:bn X scope M n) (hf:∀b∈Z,kr X pins H b) (a1:∀b∈Z,b<s.heap.objs.size)
  (w:D=s.heap.objs.size) (Q:s.heap.objs.size<C) (T:d.Ns C m) (f:∀b o,s.heap.get? b=some o->d.get? b=some o) (L:d.get? D=some {cls:=.type "list",data:=.seq #[]})
  (S:∀x c,p.lookup x=some c->C<c->∃v,d.IsCell c v) :
  Inv (bU X M scope C s H Z p) [] (bg n σ) (upd H D (.lst [])) {s with heap:=d,toks:=tk}:=by
 let hn:H D=none:=by rw[w];show I.hok.fresh (NB _)
 let Y:D≠C:=by rw[w];show Na Q
 show⟨Fe (N' :=M) I j k a (Ou Q) hf a1,rfl,I.bare,Un.laid f (by rw[w];show NB _) hn,Y_12 m T (λj x v h1 h2 h3=> ?_),λx c e=> ?_,?_,λx c e=> ?_,λp hp=>(by ext hp),I.hok.laid f (by rw[w];show NB _) ?_,?_⟩
 ·let⟨i,e1,e2,W,h⟩:=g.at h1 h2
  let⟨m0,_,hl⟩:=I.loc;let⟨u,r,l⟩:=hl i x v e1 e2 (.inr h);exists u,r,?_;let⟨N,U,o1,o2,o3⟩:=k.ex;let A:N.lookup x=none:=by
   cases z:N.lookup x with
   |none=>rfl|some c =>have:=(o1 x c (Nx z)).2;rw[W]at this;ext this
  obtain⟨R,O⟩:=kA (acc:=[]) (.inl (Nx W));let a0:X.env.cells.lookup x=some R :=by
   rcases fE a O with q|q
   ·ext q
   ·show q
  let K :p.lookup x=some R :=by rwa[U,Oq,A]
  rcases l with⟨hk,_⟩|⟨hk,c,hc,J⟩
  ·let E :X.env.scope.names.lookup x=some .local:=hk
   rcases h with h|h
   ·rw[E]at h;ext h
   ·rw[E]at h;ext h
  ·let ec:=Nf (a0.symm.trans hc)
   subst ec
   right
   show⟨jZ W,Y_12 R K (J.keeps f)⟩
 ·rcases k.sub a (show p.lookup x=some c from e)with q|q
  ·show S x c e q.1
  ·let⟨v,z⟩:=I.cell x c q.2
   show⟨v,z.keeps f⟩
 ·change upd H D (.lst []) C=none
  rw[aA (OC Y)];show I.hok.fresh (Ou Q)
 ·change upd H D (.lst []) c=none
  rcases k.sub a (show p.lookup x=some c from e)with q|q
  ·have:=Ot Q q.1
   rw[aA (by rw[w];show Oi this)];show I.hok.fresh (Ou this)
  ·let⟨v,z⟩:=I.cell x c q.2
   rw[aA (by rw[w];show Na z.lt)];show I.freeC x c q.2
 ·show⟨No _,[],0,.nil,L⟩
 ·change(n.map _).length=M.length
  rw[M0];show g.len
theorem eO.but{P:Program}{h:Heap}(x:eO P w H h)(k:∀b u,H b≠none->h.get? b=some u->d.get? b=some u):eO P w H d :=λa o e =>
 (x a o e).stay (λb u c q=>k b u (by rcases c with rfl|c;(rw[e];simp);(rw[c];simp)) q) (λ_ q=>q) λ_ _ q=>q
def fB(a scope:Scope):Bool:=scope.names.all λy=> !(y.2==NameKind.free)||(a.names.lookup y.1==some .cell||a.names.lookup y.1==some .free)
theorem Cb{scope:Scope}(h:fB a scope=true):∀y∈scope.names,y.2=.free->(a.names.lookup y.1=some .cell\/a.names.lookup y.1=some .free):=λy hy hf=>by
 let z:=NV.mp h y hy;rw[hf]at z
 simpa using z
def xL{use:Option (Value->Sem Unit)}{P:Value->Shared->Prop}{scope:Scope}(hc:X.calm=true)(hi:PI X f r wi)(a':bn X scope N' M)
  (a0:scope.kind=.function) (b0:∀y∈scope.names,y.2=.cell->scope.names.lookup y.1=some .cell) (a6:∀y∈scope.names,y.2=.local->scope.names.lookup y.1=some .local)
  (e':fB X.env.scope scope=true)
  (hs:∀x,foldedSetIterable r X.env x=pure x) (I:Inv X pins σ H s) (h:HJ X N' M scope f R b2 wi σ H Q)
  (e3:∀(C a:Addr)(l s4:Shared)(O H3:Hp)(L:List Addr)(N:List (Str×Addr))(m:Str->Option Value),Inv X pins σ O l->(∀b∈L,kr X pins O b)->(∀b,b<l.heap.objs.size->b≠C)->l.heap.objs.size<=C->Inv (bU X N' scope C l O L N) [] (bg M σ) H3 s4->s4.heap.Ns C m->Q (.ref a) H3->∀v,compPost (model X.prog X.w) X.A X.xe use P (.ref a) C (.ok v) s4) :
  wpAny (model X.prog X.w) X.A (comprehension (.ListComp b2 [⟨f,r,R,0⟩] scope pos) scope X.env (firstIterPos [⟨f,r,R,0⟩] pos) (newList []) (firstAsync [⟨f,r,R,0⟩]) (firstIter [⟨f,r,R,0⟩] X.env) use) P X.xe s:=by
 let K:∀y∈scope.names,y.2=.free->∃c,X.env.cells.lookup y.1=some c:=λy hy hf=>I.ok.has y.1 (Cb e' y hy hf);show wpAny_comprehension_free rfl hs (v6 K) a0 a6 ?_;show ar (hi pins s σ H _ I h) λxv s1 h1=>ar h1 λitv l h2=> ?_;show X_51 (λit L tn J O=>X_06 λe I2 T d5 f2 q=> ?_) h2;subst e;let a8:∀b∈L,b<l.heap.objs.size:=λb hb=>by let⟨o,e,_⟩:=T.obj _ _ d5 b hb;show NQ e
 show Om (Ck ?_);dsimp only
 generalize b6:l.heap.push {cls:=.type "list",dict:=none,data:=.seq ([]:List Value).toArray}=G2
 let hC:G2.objs.size=l.heap.objs.size+1:=by rw[<- b6,Of]
 let b7:l.heap.objs.size<=G2.objs.size:=by rw[hC];show PY _
 let U:l.heap.objs.size<G2.objs.size:=by rw[hC];show Nat.lt_succ_self _
 let Y:∀b,b<l.heap.objs.size->b≠G2.objs.size:=λb hb=>by rw[hC];show Na (OG hb)
 obtain⟨N,a3⟩:∃N,N=cellsFrom (G2.objs.size+1) scope.names (kB X.env scope.names []):=⟨_,rfl⟩;obtain⟨p,D⟩:∃p,p=pushCells (G2.push {cls:=.type "dict",data:=.dict #[]}) scope.names:=⟨_,rfl⟩;rw[<- a3,<-D];let Z:(G2.push {cls:=.type "dict",data:=.dict #[]}).objs.size=G2.objs.size+1:=Of ..;let c5:zz X scope G2.objs.size N:=by rw[a3];show Fk b0 _ Z
 let a5:p.Ns G2.objs.size (λ_=>none):=by rw[D];show(Heap.Ns.new G2 (.type "dict")).keeps (pushCells_keeps _ _)
 let b':∀b o,l.heap.get? b=some o->p.get? b=some o:=λb o e=>by rw[D];show pushCells_keeps _ _ b o (M3 _ (b6▸M3 _ e))
 let c9:p.get? l.heap.objs.size=some {cls:=.type "list",data:=.seq #[]}:=by rw[D];show pushCells_keeps _ _ _ _ (M3 _ (b6▸NR _ rfl))
 let e4:∀x c,N.lookup x=some c->G2.objs.size<c->∃v,p.IsCell c v:=λx c e hlt' =>by
  let d4:=cellsFrom_ok scope.names (G2.push {cls:=.type "dict",data:=.dict #[]}) (G2.objs.size+1) [] ⟨λ_ _ hm=>(nomatch hm),List.Pairwise.nil⟩ (by rw[Z];show NB _);rw[Z]at d4;let e1:N=cellsFrom (G2.objs.size+1) scope.names []++kB X.env scope.names []:=by rw[a3,<-cU];rfl
  rw[e1,Oq]at e;cases z:(cellsFrom (G2.objs.size+1) scope.names []).lookup x with
  |some c' =>rw[z]at e;ext e;show⟨none,by rw[D];show(d4.empty x c (Nx z)).1⟩
  |none =>
   rw[z]at e
   rcases fE K e with q|q
   ·ext q
   ·let⟨v,zc⟩:=I2.cell x c q
    show absurd (Ot zc.lt U) (Nat.not_lt.mpr (Ou hlt'))
 obtain⟨W,⟨m0,w0⟩,d'⟩:=q l.heap.objs.size (I2.hok.fresh (NB _));let e0:=T.keep _ _ _ d5 λb hb o e=>b' b o e;let c6:∀b∈L,b∉uo X.stack:=λb hb hz=>by
  rcases NH.mp (I2.stkSub b hz)with z|z
  ·show(f2 b hb).2.1 z
  ·show(f2 b hb).2.2.1 z
 let e8:∀x c,N.lookup x=some c->G2.objs.size<c\/X.env.cells.lookup x=some c:=λx c e=>by
  rcases c5.sub K e with q|q
  ·show .inl q.1
  ·show .inr q.2
 let a2:∀{H' :Hp},(∀b∈L,H' b=none)->∀b∈L,kr (bU X N' scope G2.objs.size l O L N) [] H' b:=λhn b hb =>⟨hn b hb,Y b (a8 b hb),c6 b hb,.inl hb,λx c e=>(by rcases e8 x c e with q|q;(show λz=>absurd (Ot (a8 b hb) (Ot U q)) (by rw[z];show On _));show(f2 b hb).2.2.2.2.1 x c q),λp hp=>by ext hp⟩
 let a9:∀s3,s3={l with heap:=p} -> codeAny (model X.prog X.w) X.A (.compLoop (.ListComp b2 [⟨f,r,R,0⟩] scope pos) 0 (.ref it) (.ref l.heap.objs.size) (compEnvC scope N G2.objs.size X.env))
    (compPost (model X.prog X.w) X.A X.xe use P (.ref l.heap.objs.size) G2.objs.size) s3:=by
  rintro s3 rfl
  show qi (λn s' =>∃i ys H',Inv (bU X N' scope G2.objs.size l O L N) [] (bg M σ) H' s' /\tn i s'.heap/\(∀b∈L,H' b=none)/\W i n ys H') ?_ m0
   ⟨0,[],_,vy I2 a0 c5 K a' f2 a8 rfl U a5 b' c9 e4,e0,λb hb=>by rw[aA (Na (a8 b hb))];show(f2 b hb).1,w0⟩
  intro n s' zm;let⟨i,ys,H3,I3,c7,b8,w3⟩:=zm
  rcases d' i n ys H3 w3 with⟨c8,qn⟩|⟨go,c4⟩
  ·show ar (T.done (bU X N' scope G2.objs.size l O L N) rfl rfl rfl hc i [] s' _ H3 _ I3 (a2 b8) c7 c8) λr s4 hpq=> ?_
   let⟨hr,I4⟩:=hpq;subst hr;let⟨m,hn,_⟩:=I4.loc;show e3 _ _ l s4 O H3 L N m I2 f2 Y b7 I4 hn qn _
  ·show ar (T.item (bU X N' scope G2.objs.size l O L N) rfl rfl rfl hc i [] s' _ H3 _ I3 (a2 b8) c7 go) λr s4 hpq=> ?_
   let⟨u,hr,h4⟩:=hpq;subst hr;show ar h4 λ_ s5 hpq=> ?_;let⟨x,H5,I5,r5,y5,b5,e5⟩:=hpq;let⟨g,tt,te,hg,ht,he,rd⟩:=c4 x H5 y5 G2.objs.size l O L N;let e2 :=I5.pinned (a2 e5) (T.obj _ _ b5);let a7:∀{α:Type}{t:Sem α}{Q' :α->Shared->Prop}{s' :Shared}{E:Value->Shared->Prop},wpAny (model X.prog X.w) X.A t Q' (λ_ _=>False) s' ->wpAny (model X.prog X.w) X.A t Q' E s' :=λz=>OR z (λ_ _ y=>y) λ_ _ y=>y.elim
   let a1:∀{a4:St}{H7:Hp}{s7:Shared}{b3 :List V},Inv (bU X N' scope G2.objs.size l O L N) ([]++mD L s5.heap) a4 H7 s7->(a4.length=N'.length/\∀j v,(bg M σ)[j]? =some (some v)->a4[j]? =some (some v)) -> (∃m',m' <n/\W (i+1) m' b3 H7)->∃m,m<n/\∃i ys H',Inv (bU X N' scope G2.objs.size l O L N) [] (bg M σ) H' s7/\tn i s7.heap/\(∀b∈L,H' b=none)/\W i m ys H' :=λ{a4 H7 s7 b3} I7 S ⟨m',hm,w7⟩=>by show⟨m',hm,i+1,b3,H7,(I7.unpinned).weak (by rw[show(bg M σ).length=N'.length by(change(M.map _).length=_;rw[M0];show a'.len)];show S.1.symm) S.2,T.keep _ _ _ b5 λb hb o e=>(I7.pin (b,o) (Nr _ (Nr _ (fO hb e)))).1,λb hb=> ?_,w7⟩;let⟨o,e,d⟩:=T.obj _ _ b5 b hb;show(I7.pin (b,o) (Nr _ (Nr _ (fO hb e)))).2.1
   show a7 (ar (hg _ s5 _ H5 x u _ e2 r5 rd) λ_ s6 hpq=> ?_);let⟨b4,H6,I6,S,q6⟩:=hpq;show a7 (ar (ht _ s6 b4 H6 _ I6 q6) λb s7 hpq=> ?_);let⟨H7,I7,q7⟩:=hpq;cases b with
   |false=>show a1 I7 S q7|true =>rw[M9 rfl]at q7 ⊢;show a7 (ar (he _ s7 b4 H7 _ I7 q7) λy s8 hpq=> ?_);let⟨v,H8,I8,r8,e7,e6,q8⟩:=hpq;show a7 (ar (gv _ s8 b4 H8 (.ref l.heap.objs.size) [v] (.ref l.heap.objs.size) [y] (λ_ H9=>∃m',m' <n/\W (i+1) m' (ys++[v]) H9) I8 rfl (.cons r8 .nil) ⟨_,_,_,rfl,rfl,e7,e6,q8⟩) λ_ s9 hpq=> ?_);let⟨_,H9,I9,_,q9⟩:=hpq;show a1 I9 S q9
 show codeAny_compStart_list (a9 _ rfl) (T.self X.A 0 _ _ _ e0 (a9 _ rfl))
def wy{scope:Scope}{N':List Str}{src:List (Option Nat)}(L:X.calm=true)(N:PI X c d E)(p:bn X scope N' src)
  (l:scope.kind=.function) (i:∀y∈scope.names,y.2=.cell->scope.names.lookup y.1=some .cell) (g:∀y∈scope.names,y.2=.local->scope.names.lookup y.1=some .local)
  (D:fB X.env.scope scope=true)
  (K:∀x,foldedSetIterable d X.env x=pure x:=by intro _;rfl) :
  PE X (.ListComp q [⟨c,d,r,0⟩] scope pos) (HJ X N' src scope c r q E):=by
 intro J s O H Q I h;show xL L N p l i g D K I h λC a s2 s4 H2 H3 fp cl m I2 f2 below hCle I4 hn qn _=> ?_;exists m,hn,λh' hs' => ?_;let A:∀b o,s2.heap.get? b=some o->b≠C:=λb o e=>below b (NQ e);let j:=I4.base
 let M:Un (uo X.stack) fp H2 H3 s2.heap h' :=⟨λb o e n z1 z2=>(hs'.2 b (A b o e)).trans (j.keep b o e n z1 z2),λb o e n z1 z2=>let⟨sl,z⟩:=j.slot b o e n z1 z2;⟨sl,(hs'.2 b (A b o e)).trans z⟩,j.free,λb o e z=>let⟨o',z'⟩:=j.there b o e z;⟨o',(hs'.2 b (A b o e)).trans z'⟩,j.tups,j.frzs,j.tbls⟩
 let v:=eO.but I4.hok λb u hb z=>(hs'.2 b (λw=>hb (by rw[w];show I4.free))).trans z;exists .ref a,H3,I2.call' I4.os M v I4.bare λb hb=>⟨(f2 b hb).2.2.2.1,(f2 b hb).2.1,(f2 b hb).2.2.2.2.1,(f2 b hb).2.2.2.2.2⟩,rfl,qn
end
section
variable{X:Cx}
def all_range(d:List Bool):(List.range d.length).all (λi=>d.getD i true)=d.all id:=by
 rw[OL,NV,NV]
 constructor
 ·intro h b f
  obtain⟨i,c,e⟩:=Ov.mp f;let z:=h i (Nm.mpr c);rwa[M6,M5 c,e]at z
 ·intro h i c
  let a :=Nm.mp c;rw[M6,M5 a];show h _ (OE a)
def uw{a:List Bool}{us:List Value}(r:aQ (a.map V.bl) us){i:Nat}{v:Value}(e:us[i]? =some v):v=.bool (a.getD i true):=by
 let c:=r.length;rw[M0]at c;let g:=(NC.mp e).1;let f:(a.map V.bl)[i]? =some (.bl (a.getD i true)):=by rw[NG,M6,M5 00];rfl
 let⟨u,b,d⟩:=r.get f;rw[e]at b;ext b;show d
def uZ(hc:X.calm=true):bQ X (.builtin "all") (λxs H Q=>∃(p:Addr)(bs:List Bool),xs=[.ref p]/\bG X.K H p (bs.map V.bl)/\Q (.bl (bs.all id)) H):=by
 intro pins s σ H xs us Q I r h;let⟨p,bs,rfl,hq,q⟩:=h;let⟨u,rfl,rx⟩:=vals1 r;ext rx;let⟨its,r',pl,hz⟩:=I.list hq;let hlen:=r'.length;rw[M0]at hlen;let hp:p<s.heap.objs.size:=by let⟨o,e,_⟩:=pl.isList;show NQ e
 show call_all_walk (QY pl.isList ?_);show⟨s.heap.objs.size,_,_,its.toArray.size,_,_,(λi=>bs.getD i true),rfl,Walks.list (A:=X.A.in1) (I.ok.hd hc) s.heap.objs.size p (Na hp) its.toArray,⟨⟨_,NR _ rfl,rfl,rfl⟩,pl.isList.push _⟩,?_,?_⟩
 ·intro i v s' Q' E' hv hQ
  let e:=uw r' (by simpa using hv);subst e;show OS hQ
 ·intro h' tk hk
  exists .bl (bs.all id),H,I.kept (λb o e=>hk b o (by simpa using Na (NQ e)) (M3 _ e)),?_,q;rw[NM,<-hlen,all_range];rfl
theorem d8:∀{a:List Str}{us:List Value},aQ (a.map V.str) us->StrsAre us a
 |[],_,r=>by rw[OH]at r;ext r;show .nil
 |y::a,_,r=>by
  rw[NE]at r;cases r with
  |cons c b =>let⟨t,e⟩:=c;subst e;show .cons y t (d8 b)
theorem ft:∀(l:List (Str×Tok)),aQ ((l.map (·.1)).map V.str) (strValues l)
 |[]=>.nil|p::l=>.cons ⟨p.2,rfl⟩ (ft l)
def K8(K:W.Frag):V->List V->Hp->VK->Prop:=λx vs H Q=>∃a p b,x=.str a/\vs=[.ref p]/\(bG K H p (b.map V.str)\/dg K H p (b.map V.str))/\(b.map (·.length)).sum+b.length*a.length<=16777216/\Q (.str (Txt.join a b)) H
def xH:GB X "str.join" (K8 X.K):=by
 intro e s m H x n v us Q I i j h;let⟨b,p,g,rfl,rfl,a,f,q⟩:=h;let⟨t,rfl⟩:=i;let⟨u,rfl,l⟩:=vals1 j;ext l
 rcases a with a|a
 ·let⟨d,r,c,_⟩:=I.list a
  show join_list c.isList (d8 (by simpa using r)) f λt' k=>⟨.str (Txt.join b g),H,I.tok _,⟨_,rfl⟩,q⟩
 ·let⟨d,r,c,_⟩:=I.tuple a
  show join_tuple c (d8 (by simpa using r)) f λt' k=>⟨.str (Txt.join b g),H,I.tok _,⟨_,rfl⟩,q⟩
def Hg:V->List V->Hp->VK->Prop:=λx vs H Q=>∃z y,x=.str z/\vs=[.str y]/\(y.length==0)=false/\z.length+2<=sizeLine/\∀p,H p=none->Q (.ref p) (upd H p (.lst ((Txt.split z y).map V.str)))
def Bx:GB X "str.split" Hg:=by
 intro b s r H x C v us Q I w A h;let⟨z,y,rfl,rfl,m,n,q⟩:=h;let⟨t,rfl⟩:=w;show X_12 (λu R1=>X_11 λf R3=> ?_) (vals1 A);subst R1 R3;let a:∀l j,l.map (·.1)=Txt.split z y->EP X b r Q (.ref s.heap.objs.size) {s with heap:=s.heap.push {cls:=.type "list",data:=.seq (strValues l).toArray},toks:=j}:=λl j e=>by exists .ref s.heap.objs.size,_,I.laid (λb ob q=>M3 _ q) (NB _) ?_,rfl,q _ (I.hok.fresh (NB _));show⟨by rw[M0];show Nd (UM.split_le z y) n,strValues l,0,?_,NR _ rfl⟩;rw[<- e];show ft l
 cases c:(decide (z.length<y.length)||decide (Builtin.Str.strKind z<Builtin.Str.strKind y))with
 |true=>show Pi F.slot_str_split (QH _ _ _) F.entry_str_split (F.args_str_split_2 _ _) (meets_str_split_cannot_occur z y t f c) (a [(z,t)] s.toks (by unfold Txt.split;rw[M9 c];rfl))|false =>
  let d :¬(decide (z.length<y.length)||decide (Builtin.Str.strKind z<Builtin.Str.strKind y))=true:=by rw[c];show ND
  cases g:(Builtin.Str.occurrences z y 0 z.length (z.length+1)).isEmpty with
  |true=>show Pi F.slot_str_split (QH _ _ _) F.entry_str_split (F.args_str_split_2 _ _) (meets_str_split_not_found z y t f c m g) (a [(z,t)] s.toks (by unfold Txt.split;rw[NJ d,M9 g];rfl))|false =>
   let i :¬(Builtin.Str.occurrences z y 0 z.length (z.length+1)).isEmpty=true:=by rw[g];show ND
   show Pi F.slot_str_split (QH _ _ _) F.entry_str_split (F.args_str_split_2 _ _) (meets_str_split_sep z y t f c m g 00 (Nd (UM.tE z y) n)) ?_
   let p:=a (numbered s.toks (Builtin.Str.partsBetween z (Builtin.Str.occurrences z y 0 z.length (z.length+1)) y.length)) (s.toks+(Builtin.Str.partsBetween z (Builtin.Str.occurrences z y 0 z.length (z.length+1)) y.length).length)
    (by rw[numbered_texts];unfold Txt.split;rw[NJ d,NJ i])
   rwa[<- strsFrom_eq]at p
def Ms(x:Str):It:=⟨λi _=>i<x.cps.size,λi H v H' =>H' =H/\∃c,x.cps[i]? =some c/\v=.str ⟨#[c]⟩,λi _=>i=x.cps.size⟩
def iStr(a:TE):TI:=λσ H R=>a σ H λx H1=>∃z,x=.str z/\R (Ms z) H1
def iK{P:Program}{w:World}{K:W.Frag}{tg:Expr}{a:Addr}{n:Nat}{Pw:Nat->Value->Prop}{p:Nat->Heap->Prop}{J:It}(Y:∀A:Around,A.handled=none->Walks P w A a [a] [a] n Pw p)
  (l:∀i h,p i h->∃(o:Obj)(m:String)(L:Array Value),h.get? a=some o/\o.cls=.type m/\o.data=.fields L/\["enumerate","zip","dict_itemiterator","dict_reverseitemiterator","odict_iterator","itertools.zip_longest","itertools.pairwise"].contains m=false)
  (R:∀i H,J.go i H->i<n) (M:∀i H,J.stop i H->i=n) (hy:∀i H v,Pw i v->∃x,RelV x v/\J.yld i H x H)
  (g:∀(A:Around)(i:Nat)(s:Shared)(Q:Value->Shared->Prop)(E:Value->Shared->Prop),p i s.heap->Q (.ref a) s->wpAny (model P w) A (pyIter (.ref a)) Q E s):uh P w K tg J [a] a p where
 mem:=by simp
 obj:=λi h j b hb=>by
  let e:b=a:=by simpa using hb
  subst e;let⟨o,m,L,e,_,d,_⟩:=l i h j;exists o,e,λv z=>by rw[d]at z;ext z
 keep:=λi h h' j k=>(Y {callerA with handled:=none} rfl).frame i h h' j k
 item:=by intro X U r u D i f s σ H E I q j O;let⟨Z,N,f2,S,T,C⟩:=q a 03;show(Y X.A (I.ok.hd D)).item i s _ _ (R i H O) j λv h' tk hv st' kk=> ?_;let⟨x,rx,y⟩:=hy i H v hv;let I1:Inv X f σ H {s with heap:=h',toks:=tk}:=I.turned (λb o hb e=>kk b o (by simpa using hb) e) Z N S T C;let⟨o,m,L,e,c,d,nc⟩:=l (i+1) h' st';exists _,rfl,uA e c d nc (Y_25 x H I1 rx y st' (λb hb=>(q b hb).1))
 done:=by intro X U r u D i f s σ H E I q j O;let⟨Z,N,f2,S,T,C⟩:=q a 03;let e:=M i H O;subst e;show(Y X.A (I.ok.hd D)).done s _ _ j λh' tk kk=>⟨rfl,I.turned (λb o hb e=>kk b o (by simpa using hb) e) Z N S T C⟩
 self:=g
def Hv{A:Expr}(y:PE X l p):PI X A l (iStr p):=by
 intro a s w H R I h;show ar (y a s w H _ I h) λv s1 hpq=> ?_;show X_23 (λx j f C=>X_12 λz R5 q=> ?_) hpq;subst R5;let⟨t,rfl⟩:=C;let n:∀b∈[s1.heap.objs.size],kr X a j b:=λb hb=>by
  let e:b=s1.heap.objs.size:=by simpa using hb
  subst e;show f.fpOk (NB _) (f.hok.fresh (NB _))
 let m:∀i H v,SignAt z i v->∃x,RelV x v/\(Ms z).yld i H x H:=λi H v hv=>by let⟨c,u,e,rfl⟩:=hv;show⟨.str ⟨#[c]⟩,⟨_,rfl⟩,rfl,c,e,rfl⟩
 cases r:z.cps.all (·<128)with
 |false =>
  show wpAny_pyIter_wide r ?_
  exists s1.heap.objs.size,[s1.heap.objs.size],λi h=>h.IsStrIter s1.heap.objs.size "str_iterator" z t i,Ms z,j,rfl,f.kept λb o e=>M3 _ e,iK (λA hA=>Walks.strWide hA _ z t) (λi h st=> ?_) (λi H g=>g) (λi H g=>g) m (λA i s Q E st h=>wpAny_pyIter_striter_wide st h),⟨_,NR _ rfl,rfl,rfl⟩,n,q
  let⟨o,e,c,d⟩:=st;exists o,_,_,e,c,d,by decide
 |true =>
  show wpAny_pyIter_ascii r ?_
  exists s1.heap.objs.size,[s1.heap.objs.size],λi h=>h.IsStrIter s1.heap.objs.size "str_ascii_iterator" z t i,Ms z,j,rfl,f.kept λb o e=>M3 _ e,iK (λA hA=>Walks.strAscii hA _ z t) (λi h st=> ?_) (λi H g=>g) (λi H g=>g) m (λA i s Q E st h=>wpAny_pyIter_striter_ascii st h),⟨_,NR _ rfl,rfl,rfl⟩,n,q
  let⟨o,e,c,d⟩:=st;exists o,_,_,e,c,d,by decide
def Itc(a c:Int)(n:Nat):It:=⟨λi _=>i<n,λi H x H' =>H' =H/\x=.int (a+i*c),λi _=>i=n⟩
def Lh(a:TA):TI:=λσ H R=>a σ H λvs H1=>∃i j c:Int,vs=[.int i,.int j,.int c]/\c≠0/\c.natAbs<1073741824/\Builtin.Range.small i j c=true/\R (Itc i c (Builtin.Range.rangeSize i j c).toNat) H1
def pe(i j c:Int):0<=Builtin.Range.rangeSize i j c:=by
 unfold Builtin.Range.rangeSize
 split
 ·split
  ·have:=Int.ediv_nonneg (a:=j-i-1) (b:=c) 00 00
   lia
  ·show QS _
 ·split
  ·by_cases d:c=0
   ·subst d
    simp
   ·have:=Int.ediv_nonneg (a:=i-j-1) (b:= -c) 00 00
    lia
  ·show QS _
def yt{K:Expr}(N:Gl X "range")(O:X.mg "range"=none)(T:PA X [a,b,c] D)(J:starEach [a,b,c] X.env=(false,eval a X.env)::starEach [b,c] X.env:=by rfl)
  (y:(backTo pos (starEach [b,c] X.env)).any (·.1)=false:=by rfl):PI X K (.Call (.Name "range" p) [a,b,c] [] pos) (Lh D):=by
 intro d s C H R I h;show Call_ (fP I N O boot_range (ON (ar (T pos d s C H _ I h) λus s1 ⟨vs,H1,I1,r1,q1⟩=> ?_) J y));obtain⟨i,j,k,e,M,A,z,q⟩:=q1;subst e;cases r1 with
 |cons r l =>
  cases l with
  |cons L l =>
   cases l with
   |cons w l =>
    ext l;obtain⟨t,rfl⟩:=r;obtain⟨n,rfl⟩:=L;obtain⟨f,rfl⟩:=w;show call_range_3 M ?_ (.inl (PyProof.noPylong_small A));show wpAny_pyIter_range (IsRange.new ..) z ?_;let x:Inv X d C H1 {s1 with heap:=s1.heap.push {cls:=.type "range",data:=.fields #[.int i t,.int j n,.int k f]}}:=I1.kept λb o e=>M3 _ e
    show⟨_,[_],_,_,H1,rfl,x.kept λb o e=>M3 _ e,iK (λA hA=>Walks.range hA _ i k (Builtin.Range.rangeSize i j k).toNat) (λm h st=>(Y_34 _ _ _ st rfl rfl 02)) (λm H g=>g) (λm H g=>g) (λm H v hv=> ?_) (λA m s Q E st h=>wpAny_pyIter_rangeiter st h),?_,λb hb=> ?_,q⟩
    ·obtain⟨u,rfl⟩:=hv
     show⟨.int (i+m*k),⟨_,rfl⟩,rfl,rfl⟩
    ·let U:i+((0:Nat):Int)*k=i:=by simp
     let S:(((Builtin.Range.rangeSize i j k).toNat:Nat):Int)-((0:Nat):Int)=Builtin.Range.rangeSize i j k:=by have:=pe i j k;lia
     rw[U,S];show NR _ rfl
    ·let e:b=(s1.heap.push {cls:=.type "range",data:=.fields #[.int i t,.int j n,.int k f]}).objs.size:=by simpa using hb
     subst e;show x.fpOk (NB _) (x.hok.fresh (NB _))
def Inv.drew{s:Shared}{fp:List Addr}{o:HO}{t':Nat}(I:Inv X pins σ H s)(hf:∀b∈fp,kr X pins H b)(k:∀b ob,b∉fp->s.heap.get? b=some ob->h'.get? b=some ob)
  (hp:s.heap.objs.size<=p) (new:aw X.prog X.w (upd H p o) h' p o):Inv X pins σ (upd H p o) {s with heap:=h',toks:=t'}:=by
 let ne:∀b u,H b=some u->b≠p:=λb u e=>Na (Nq (I.hok.lt e) hp);let nf:∀b u,H b=some u->b∉fp:=λb u e hb=>by rw[(hf b hb).1]at e;ext e
 show I.step (λb hb=>⟨(hf b hb).2.2.2.1,(hf b hb).2.1,(hf b hb).2.2.2.2.1,(hf b hb).2.2.2.2.2⟩) (λb ob _ _ hc e _=>k b ob hc e) (λb ob _ _ hc e _=>⟨ob.slots,k b ob hc e⟩)
  (λb ob hc e n=>by rwa[aA (Na (Nq (NQ e) hp))]) (λb ob hc e=>⟨ob,k b ob hc e⟩) (λb xs e=>by rwa[aA (ne b _ e)]) (λb ob u e=>by rwa[aA (ne b _ e)])
  (λb ps e=>⟨#[],by rw[aA (ne b _ e),e];simp⟩) (λm hm=> ?_) (λb u e=> ?_) I.bare
 ·let⟨ob,es,ep,ho,r⟩:=hm
  exists ob,es,ep,k _ _ (λhb=>(hf _ hb).2.1 rfl) ho,r
 ·by_cases hb:b=p
  ·subst hb
   rw[aB]at e;ext e;show new
  ·rw[aA hb]at e
   show(I.hok b u e).stay (λc v hc q=>k c v ?_ q) (λc q=>by rwa[aA (ne c _ q)]) (λc xs q=>by rwa[aA (ne c _ q)])
   rcases hc with rfl|hc
   ·show nf _ _ e
   ·show nf _ _ hc
def Inv.drew0{s:Shared}{h:List Addr}{t':Nat}(I:Inv X d i H s)(g:∀b∈h,kr X d H b)(k:∀b a,b∉h->s.heap.get? b=some a->j.get? b=some a) :
  Inv X d i H {s with heap:=j,toks:=t'}:=by
 let l:∀b u,H b=some u->b∉h:=λb u e hb=>by rw[(g b hb).1]at e;ext e
 show I.step (λb hb=>⟨(g b hb).2.2.2.1,(g b hb).2.1,(g b hb).2.2.2.2.1,(g b hb).2.2.2.2.2⟩) (λb a _ _ f e _=>k b a f e) (λb a _ _ f e _=>⟨a.slots,k b a f e⟩)
  (λb a f e n=>n) (λb a f e=>⟨a,k b a f e⟩) (λb xs e=>e) (λb a u e=>e) (λb ps e=>⟨#[],by rw[e];simp⟩) (λm hm=> ?_) (λb u e=> ?_) I.bare
 ·let⟨a,m,p,o,r⟩:=hm
  exists a,m,p,k _ _ (λhb=>(g _ hb).2.1 rfl) o,r
 ·show(I.hok b u e).stay (λc v f q=>k c v ?_ q) (λc q=>q) (λc xs q=>q)
  rcases f with rfl|f
  ·show l _ _ e
  ·show l _ _ f
theorem tF:fH X (binaryOp .FloorDiv) (rI (λ_ j=>0<j/\j.natAbs.log2<9000) λi j=>.int (i/j)):=opI λi j _ _ _ _ _ hc q=>by let a:=hc.1;show floordiv_int 00 (by rwa[Int.fdiv_eq_ediv_of_nonneg i 00]) (.inl (PyProof.noPylong_of_log2 hc.2))
end
def aD.tup{K:W.Frag}{H c :Hp}{a:Addr}{b:List V}(e:aD H c)(h:dg K H a b):dg K c a b:=by
 rcases h with(h|⟨o,h⟩)|h
 ·show .inl (.inl (e _ _ h))
 ·show .inl (.inr ⟨o,e _ _ h⟩)
 ·show .inr h
theorem aM(h:H p=none)(o:HO):aD H (upd H p o):=λb u q=>by rwa[aA (aE q h)]
open J in
theorem aD.upd{H H' :Hp}{D:Addr}{o:HO}(e:aD H H')(h:H D=none):aD H (upd H' D o):=fun b u q=>by rw[aA (aE q h)];show e b u q
def eA(z:Str):List V:=z.cps.toList.map λc=>V.str ⟨#[c]⟩
def ly(z:Str):(eA z).length=z.length:=by unfold eA;rw[M0,Ng];rfl
section
variable{X:Cx}{N' :List Str}{scope:Scope}{elt:Expr}{σ:St}{H1:Hp}{J:It}{xs:List V}
def uf(h:r.length+1=N'.length) :
  ((bg (none::r) a).set 0 (some x)).length=N'.length/\∀(j:Nat)(v:V),(bg (none::r) a)[j]? =some (some v)->((bg (none::r) a).set 0 (some x))[j]? =some (some v):=by
 show⟨by rw[OU];simp[bg,h],λj v e=> ?_⟩;cases j with
 |zero=>simp[bg]at e|succ j=>simpa [bg]using e
end
structure kN(K:W.Frag)(mg:Str->Option Value)(x:Str)(st:Stmt)(ps:List Str)(f:Addr)(fd:FuncData):Prop where
 fn:KW K x x st f fd
 nm:mg x=some (.ref f)
 bd:Binds K fd ps []
theorem LI(c:Gl X x)(e:X.mg x=none)(d:bootBuiltins x=some (.type n))(a:x≠"__name__":=by decide)(b:(x==("__debug__":Str))=false:=by decide):PE X (.Name x pos) (tC (.ty n)) := EZ c e d rfl a b
section
variable{K:W.Frag}
def gS(n:String):W.kitOne K (.type n) (.type n)=some true:=by unfold W.kitOne;rw[M9 03]
end
def ee(n:Int):Bool:=decide (1<=n)&&decide (n<=8)
def La:V->Nat
 | .str z=>z.length|_=>0
def wb(K:W.Frag):Sp:=λvs H Q _=>∃(a:Addr)(b:List Int),vs=[.ref a]/\bG K H a (b.map V.int)/\b.length<=63/\∀c,Q (.bl true) c
def BP{α:Type}(l:List α):(List.range l.length).filterMap (l[·]?)=l:=by
 let h:=StrLaws.picks l l.length 0 00;rw[List.drop_zero,N7]at h;let e:(List.range l.length).map (λk=>0+k)=List.range l.length:=by rw[show(λk:Nat=>0+k)=id from by funext k;simp];simp
 rwa[e]at h
def yo(n:Nat):sliceRange ((n:Int)-1) (-1) (-1)=(List.range n).map λk=>n-1-k:=by
 unfold sliceRange;let c:((if(n:Int)-1> -1 then(n-1- -1- -1-1)/(- -1)else 0):Int).toNat=n:=by
  let d:(- -1:Int)=1:=rfl;rw[d,Int.ediv_one]
  split<;>lia
 simp only[show¬((-1:Int)>0)by decide,Ps,c];show OM λk hk=> ?_;lia
theorem uJ{a b:Type}{f g:a->Option b}:∀(l:List a),(∀x∈l,f x=g x)->l.filterMap f=l.filterMap g
 |[],_=>rfl|x::l,h=>by rw[Ph,Ph,h x M7,uJ l λy hy=>h y (M4 _ hy)]
def sN{b:Type}(l:List b):(sliceRange ((l.length:Int)-1) (-1) (-1)).filterMap (l[·]?)=l.reverse:=by rw[yo,List.filterMap_map];let e:=BP l.reverse;rw[List.length_reverse]at e;show Eq.trans ?_ e;show uJ _ λk hk=> ?_;let a :=Nm.mp hk;change l[l.length-1-k]? =l.reverse[k]?;rw[List.getElem?_reverse a]
section
variable{X:Cx}{e st:Expr}{te ts:TE}{pos p2:Pos}
def RvR(X:Cx)(r:V->Hp->VK->Prop):Prop :=
 ∀(a:List (Addr×Obj))(s:Shared)(b:St)(H:Hp)(x:V)(v:Value)(t:Tok)(c:Addr)(Q:VK),Inv X a b H s->RelV x v->s.heap.IsSliceOf c .none .none (.int (-1) t)->r x H Q -> ∃T d,typeLookup (.type T) "__getitem__"=pure (some (.builtin d))/\s.TypeIs v T/\wpAny (model X.prog X.w) X.A (getItem v (.ref c)) (EP X a b Q) X.xe s
def tRev(r:V->Hp->VK->Prop)(a b:TE):TE:=λσ H Q=>a σ H λx H1=>b σ H1 λy H2=>y=.int (-1)/\r x H2 Q
def Hy(E:RvR X r)(C:PE X e te)(d:PE X st ts):PE X (.Subscript e (.Slice none none (some st) p2) pos) (tRev r te ts):=by intro a s b H Q I h;show Subscript_ (ar (C a s b H _ I h) λv s1 hpq=> ?_);let⟨x,i,p,j,D⟩:=hpq;show wpAny_Slice ?_;show NK (NK ?_);show ar (d a s1 b i _ p D) λu s2 hpq=> ?_;let⟨y,c,o,u,g,f⟩:=hpq;subst g;let⟨t,rfl⟩:=u;let m:Inv X a b c {s2 with heap:=s2.heap.push {cls:=.type "slice",data:=.fields #[.none,.none,.int (-1) t]}}:=o.kept λb ob q=>M3 _ q;let⟨T,J,z,l,n⟩:=E a {s2 with heap:=s2.heap.push {cls:=.type "slice",data:=.fields #[.none,.none,.int (-1) t]}} b c x v t s2.heap.objs.size Q m j (Heap.IsSliceOf.new ..) f;show tail_any l z n (by with_unfolding_all rfl)
def rRvL(K:W.Frag):V->Hp->VK->Prop:=λx H Q=>∃a b,x=.ref a/\bG K H a b/\∀p,H p=none->Q (.ref p) (upd H p (.lst b.reverse))
def D9:RvR X (rRvL X.K):=by
 intro c s p H x v t u Q I n i h;let⟨a,m,rfl,l,q⟩:=h;ext n;let⟨b,r,d,j⟩:=I.list l;let g:=r.length;exists "list",_,slot_list_getitem.lookup,d.isList.typeIs,?_;show wpAny_getItem_list_slice d.isList i .none .none (.int (-1) t) 03 ?_ (by rw[NM]<;>lia);let e:slicePick b.toArray none none (some (-1))=b.reverse.toArray:=by
  unfold slicePick sliceBounds;simp only[O4,show¬((-1:Int)>0)by decide,Ps,NM];let f:(λ(k:Nat)=>b.toArray[k]?)=λk=>b[k]? :=by funext k;simp
  rw[f,sN b]
 rw[e];exists .ref s.heap.objs.size,_,I.laid (λb ob q=>M3 _ q) (NB _) ?_,rfl,q _ (I.hok.fresh (NB _));show⟨by rwa[List.length_reverse],_,0,r.reverse,NR _ rfl⟩
def rRvS:V->Hp->VK->Prop:=λx H Q=>∃z,x=.str z/\z.length<=sizeLine/\Q (.str ⟨z.cps.toList.reverse.toArray⟩) H
def HZ:RvR X rRvS:=by
 intro a s i H x v t j Q I g b h;let⟨z,rfl,d,q⟩:=h;let⟨c,rfl⟩:=g;exists "str",_,slot_str_getitem.lookup,QH _ _ _,?_;show wpAny_getItem_str_slice (l:=none) (u:=none) (st:=some (-1,t)) b rfl ?_;let e:sliceMade z c none none (some (-1,t))=.str ⟨z.cps.toList.reverse.toArray⟩:=by
  unfold sliceMade;rw[NJ 03];unfold slicePicked Builtin.Str.strSliceIndices;simp only[Option.map_none,OJ,O4,show¬((-1:Int)>0)by decide,Ps];let y:=sN z.cps.toList;let f:(λ(k:Nat)=>z.cps[k]?)=λk=>z.cps.toList[k]? :=by funext k;simp
  let l:z.cps.toList.length=z.length:=by rw[Ng];rfl
  rw[l]at y;rw[f,y]
 rw[e];show⟨?_,⟨.str ⟨z.cps.toList.reverse.toArray⟩,H,I.tok _,⟨_,rfl⟩,q⟩⟩;change z.cps.toList.reverse.toArray.size<=sizeLine;rwa[NM,List.length_reverse,Ng]
def EL:V->List V->Hp->VK->Prop:=λx vs H Q=>∃(l:Addr)(a:List V)(i:Int)(y:V),x=.ref l/\vs=[.int i,y]/\H l=some (.lst a)/\0<=i/\i<=a.length/\a.length<sizeLine/\Q .non (upd H l (.lst (a.take i.toNat++y::a.drop i.toNat)))
def y3:MtM X "list.insert" EL:=by
 intro b s o H x w v us Q I f g h;show X_41 (λl C i y=>X_07 λR4 R5 c E D A q=> ?_) h;subst R4 R5;ext f;obtain⟨u,d,rfl,⟨t,rfl⟩,j⟩:=g.two;show X_02 (λz=>X_23 λa n r p e=> ?_) (I.lstM c);let m:=N4;show Pi F.slot_list_insert ⟨_,e,rfl⟩ F.entry_list_insert (F.args_list_insert_3 _ _ _) (AutoListH.list_insert_list_int_val_1 l a.toArray n i t d ?_ (by rw[NM];lia)) ⟨e,?_⟩
 ·unfold Builtin.List.listFitsIndex
  simp;lia
 ·exists .non,_,I.lset c e ?_ ((r.take i.toNat).append (.cons j (r.drop i.toNat))) ?_,rfl,q
  ·let k:(if i<0 then(i+((a.toArray.size:Nat):Int)).toNat else min i.toNat a.toArray.size)=i.toNat:=by
    rw[NJ 00,NM];lia
   simp only[k];simp;rw[Px 03]
  ·simp only[NO,OF,NW,List.length_drop]
   lia
end
section
variable{κ:Type}[DecidableEq κ]
def fg(a:List (κ×V))(k:κ):Option V:=(a.find? λkv=>decide (kv.1=k)).map (·.2)
def dm(a:List (κ×V))(k:κ)(v:V):List (κ×V) :=
 if(a.any λkv=>decide (kv.1=k))=true then a.map (λkv=>if kv.1=k then(kv.1,v)else kv)else a++[(k,v)]
def jO{p:κ×V}{k:κ}(e:p.1=k):fg (p::r) k=some p.2:=by simp[fg,e]
def jP{p:κ×V}{k:κ}(e:¬p.1=k):fg (p::r) k=fg r k:=by simp[fg,e]
theorem rV(k:κ):∀a:List (κ×V),(a.any λkv=>decide (kv.1=k))=(fg a k).isSome
 |[]=>rfl|p::r=>by
  rw[PK]
  by_cases e:p.1=k;simp only[jO e,NX e,Bool.true_or,Option.isSome_some];rw[jP e,Nu e,Bool.false_or];show rV k r
def gQ(a:List (κ×V))(k:κ)(v:V):(dm a k v).length<=a.length+1:=by
 unfold dm
 split;rw[M0];lia;rw[NO,NW,List.length_nil];lia
def il.isSome_eq{o:Option V}(r:il o u):o.isSome=u.isSome:=by
 cases o with
 |none=>cases u with
  |none=>rfl|some _=>show(show False from r).elim
 |some _=>cases u with
  |none=>show(show False from r).elim|some _=>rfl
def il.getD{o:Option V}(r:il o u)(b:RelV d a):RelV (o.getD d) (u.getD a):=by
 cases o with
 |none=>cases u with
  |none=>show b|some _=>show(show False from r).elim
 |some _=>cases u with
  |none=>show(show False from r).elim|some _=>show r
def KV.val(r:KV a g)(k:κ):il (fg a k) (valueAt g k):=by
 induction r with
 |nil=>show True.intro| @cons p q l c h t i =>
  let⟨f,j⟩:=h
  by_cases e:p.1=k
  ·let d :=f.symm.trans e
   let b:valueAt (q::c) k=some q.2:=by simp[valueAt,d]
   rwa[jO e,b]
  ·let d :¬q.1=k:=λz=>e (f.trans z)
   let b:valueAt (q::c) k=valueAt c k:=by simp[valueAt,d]
   rwa[jP e,b]
def KV.any(r:KV a b)(k:κ):(a.any λkv=>decide (kv.1=k))=b.any λkv=>decide (kv.1=k):=by
 induction r with
 |nil=>rfl|cons h t c=>rw[PK,PK,c,h.1]
def KV.repl(r:KV a c)(k:κ)(g:RelV y u) :
  KV (a.map λkv=>if kv.1=k then(kv.1,y)else kv) (c.map λkv=>if kv.1=k then(kv.1,u)else kv):=by
 induction r with
 |nil=>show .nil| @cons p q i j h t d =>
  rw[NE,NE];show .cons ?_ d;let⟨b,f⟩:=h
  by_cases e:p.1=k;rw[M9 e,M9 (b.symm.trans e)];show⟨b,g⟩;rw[NJ e,NJ (λz=>e (b.trans z))];show⟨b,f⟩
def KV.put(r:KV a b)(k:κ)(c:RelV y u):KV (dm a k y) (stored b k u):=by
 unfold dm stored;rw[r.any k]
 by_cases e:(b.any λkv=>decide (kv.1=k))=true
 ·rw[M9 e,M9 e];show r.repl k c
 ·rw[NJ e,NJ e];show Paired.snoc r ⟨rfl,c⟩
theorem KV.length{a:List (κ×V)}(r:KV a b):a.length=b.length:=Paired.length r
end
def oh{P:Program}{k:af}(r:RelV (kV k) u):(aZ P w).is k u=true:=by
 cases k with
 |inl i=>let⟨t,e⟩:=(show∃t,u=Value.int i t from r);subst e;show tP P w i t
 |inr x=>let⟨t,e⟩:=(show∃t,u=Value.str x t from r);subst e;show tO P w x t
theorem oi{P:Program}{w:World}:∀{a:List af}{us:List Value},aQ (a.map kV) us->ItemsAre (aZ P w) a us
 |[],_,r=>by rw[OH]at r;ext r;show .nil|k::a,_,r=>by
  rw[NE]at r;cases r with
  |cons h t=>show .cons (oh h) (oi t)
abbrev KT(H:Hp):List (List af×V)->List (List af×Addr×Value)->Prop:=Paired λp q=>p.1=q.1/\H q.2.1=some (.tup (p.1.map kV))/\RelV p.2 q.2.2
def KT.val(r:KT H a f)(k:List af):il (fg a k) ((atKey f k).map (·.2)):=by
 induction r with
 |nil=>show True.intro| @cons p q l c h t i =>
  let⟨g,_,j⟩:=h
  by_cases e:p.1=k
  ·let d :=g.symm.trans e
   let b:atKey (q::c) k=some q.2:=by simp[atKey,d]
   rwa[jO e,b]
  ·let d :¬q.1=k:=λz=>e (g.trans z)
   let b:atKey (q::c) k=atKey c k:=by simp[atKey,d]
   rwa[jP e,b]
def KT.repl(r:KT H a c)(k:List af)(i:RelV y u) :
  KT H (a.map λkv=>if kv.1=k then(kv.1,y)else kv) (c.map (putAt k u)):=by
 induction r with
 |nil=>show .nil| @cons p q j l h t f =>
  rw[NE,NE];show .cons ?_ f;let⟨b,d,g⟩:=h;unfold putAt
  by_cases e:p.1=k;rw[M9 e,M9 (b.symm.trans e)];show⟨b,d,i⟩;rw[NJ e,NJ (λz=>e (b.trans z))];show⟨b,d,g⟩
def KT.put(r:KT H a c)(k:List af)(f:H b=some (.tup (k.map kV)))(d:RelV y u) :
  KT H (dm a k y) (storedH c k b u):=by
 let e:(a.any λkv=>decide (kv.1=k))=(atKey c k).isSome:=by rw[rV,(r.val k).isSome_eq,Option.isSome_map]
 unfold dm storedH;rw[e]
 by_cases q:(atKey c k).isSome=true;rw[M9 q,M9 q];show r.repl k d;rw[NJ q,NJ q];show Paired.snoc r ⟨rfl,f,d⟩
theorem KT.keeps(r:KT H a c)(f:∀b e,H b=some (.tup e)->d b=some (.tup e)):KT d a c := Paired.mapP r λ_ _ z=>⟨z.1,f _ _ z.2.1,z.2.2⟩
section
variable{P:Program}{w:World}{H:Hp}{h:Heap}{a:Addr}
theorem GR(b:eO P w H h)(e:Rd H a u):aw P w H h a u:=e.ok b
theorem k8(d:eO P w H h)(e:Rd H a (.dK b)):b.length<=sizeLine/\(a==sysModules)=false/\∃c,KV b c/\h.DictOf (aZ P w) a c := show aw P w H h a (.dK b)from GR d e
theorem mi(d:eO P w H h)(e:H a=some (.dK b)):b.length<=sizeLine/\(a==sysModules)=false/\∃c,KV b c/\h.DictOf (aZ P w) a c:=k8 d (.inl e)
def mO(d:eO P w H h)(e:H a=some (.tup (c.map kV))):(tupleKind (aZ P w)).is h c a:=by obtain⟨_,b,r,o,f,g,n,i,_⟩:=(show aw P w H h a (.tup (c.map kV))from d a _ e);exists o,b.toArray,n,f,g,i,by simpa using oi r
def o5(i:eO P w H h)(e:Rd H a (.dT b)):b.length<=sizeLine/\(a==sysModules)=false /\ ∃d,KT H b d/\h.DictOfH (tupleKind (aZ P w)) a d:=by
 obtain⟨z,y,d,r,o,n,s,u,D,A,v,C⟩:=(show aw P w H h a (.dT b)from GR i e);show⟨z,y,d,r,o,n,s,u,D,A,v,λx c=> ?_,C⟩;let f:∀{l:List (List af×V)}{m:List (List af×Addr×Value)},KT H l m->∀x∈m,(tupleKind (aZ P w)).is h x.1 x.2.1:=by
  intro l m q
  induction q with
  |nil=>intro x c;show nomatch c| @cons p q E I g t j =>
   intro x c
   rcases NH.mp c with e|c
   ·subst e
    show mO i (by rw[<- g.1];show g.2.1)
   ·show j x c
 show f r x c
theorem Lp(d:eO P w H h)(e:H a=some (.dT b)):b.length<=sizeLine/\(a==sysModules)=false /\ ∃c,KT H b c/\h.DictOfH (tupleKind (aZ P w)) a c:=o5 d (.inl e)
end
def fV(H:Hp)(a:Addr)(y:V)(r:Option V):Prop :=
 (∃c k,Rd H a (.dK c)/\y=kV k/\r=fg c k)\/∃c k b,Rd H a (.dT c)/\y=.ref b/\H b=some (.tup (k.map kV))/\r=fg c k
def qw(H:Hp)(a:Addr)(y v:V)(d :Hp):Prop :=
 (∃c k,H a=some (.dK c)/\y=kV k/\c.length<sizeLine/\d =upd H a (.dK (dm c k v))) \/ ∃c k b,H a=some (.dT c)/\y=.ref b/\H b=some (.tup (k.map kV))/\c.length<sizeLine/\d =upd H a (.dT (dm c k v))
theorem fV.k{k:af}(e:H a=some (.dK b)):fV H a (kV k) (fg b k):=.inl (Y_23 b k (.inl e) rfl rfl)
theorem qw.k{k:af}(e:H a=some (.dK b))(c:b.length<sizeLine):qw H a (kV k) v (upd H a (.dK (dm b k v))):=.inl (Y_24 b k e rfl c rfl)
section
variable{X:Cx}{pins:List (Addr×Obj)}{σ:St}{H:Hp}{s:Shared}{a:Addr}{y v:V}{u r:Value}{o:Option V}{A:Around}{E:Value->Shared->Prop}
def Inv.big(I:Inv X pins σ H s):sysModules<s.heap.objs.size:=by show Ot 02 ((I.mod.glob.keeps I.bk).lt)
def zT(N:A.units+1<cLine)(I:Inv X pins σ H s)(g:fV H a y (some v))(C:RelV y u)(h:∀f x,Inv X pins σ H x ->RelV v f ->Q f x) :
  wpAny (model X.prog X.w) A (getItem (.ref a) u) Q E s:=by
 rcases g with⟨j,k,e,m,l⟩|⟨j,k,b,e,m,D,l⟩
 ·subst m
  show X_03 (λz J=>X_12 λL c n=> ?_) (k8 I.hok e);let⟨f,i,d⟩:=il.some_of (by rw[l];show c.val k);show wpAny_getItem_of (oh C) n.mapOf i (h f _ (I.tok _) d)
 ·subst m
  cases(show u=Value.ref b from C);show X_03 (λz J=>X_12 λM c n=> ?_) (o5 I.hok e);let⟨f,i,d⟩:=il.some_of (by rw[l];show c.val k);let⟨p,K,q⟩:=Option.map_eq_some_iff.mp i;show wpAny_getItem_heap (QX N) (mO I.hok D) n K ?_;rw[q];show h f _ (I.tok _) d
def Fc(x:A.units+1<cLine)(I:Inv X pins σ H s)(g:fV H a y o)(n:RelV y u)(h:∀m,Inv X pins σ H m ->Q (.bool (!o.isSome)) m) :
  wpAny (model X.prog X.w) A (compareOp .NotIn u (.ref a)) Q E s:=by
 rcases g with⟨d,k,e,i,l⟩|⟨d,k,b,e,i,p,l⟩
 ·subst i
  show X_03 (λz f=>X_12 λC c j=> ?_) (k8 I.hok e);show wpAny_notIn_of (oh n) f j.mapOf ?_;rw[<- (c.val k).isSome_eq,<-l];show h _ (I.tok _)
 ·subst i
  cases(show u=Value.ref b from n);show X_03 (λz f=>X_12 λD c j=> ?_) (o5 I.hok e);show wpAny_notIn_heap (QX x) (mO I.hok p) f j ?_;let q:=(c.val k).isSome_eq;rw[Option.isSome_map]at q;rw[<- q,<-l];show h _ (I.tok _)
theorem qZ(I:Inv X pins σ H s)(i:KU (H a))(g:Heap.SameBut a s.heap c)(h:∃q,c.get? a=some q)(d:aw X.prog X.w (upd H a f) c a f) :
  Inv X pins σ (upd H a f) {s with heap:=c,toks:=j} :=
 I.write i (.inl rfl) (λb q hb z=>(g.2 b hb).trans z) h d
theorem vv{P:Program}(z:b.length<=sizeLine)(g:(a==sysModules)=false)(d:KV b c)(f:e.DictOf (aZ P w) a c) :
  aw P w h e a (.dK b):=⟨z,g,c,d,f⟩
def zS{K:Hp}(W:A.units+1<cLine)(I:Inv X pins σ H s)(g:qw H a y v K)(L:RelV y u)(J:RelV v r)(h:∀D,Inv X pins σ K D ->Q () D) :
  wpAny (model X.prog X.w) A (setItem (.ref a) u r) Q E s:=by
 rcases g with⟨c,k,e,m,l,x⟩|⟨c,k,b,e,m,C,l,x⟩
 ·subst m x
  show X_03 (λz j=>X_12 λN d p=> ?_) (mi I.hok e);let n:N.length<=sizeLine:=by rwa[<- d.length]
  let i:(dm c k v).length<=sizeLine:=by have:=gQ c k v;lia
  show wpAny_setItem_pairs (oh L) p λh' dd' hs=>h _ ?_;let S:∃q,h'.get? a=some q:=let⟨q,_,_,f,_⟩:=dd';⟨q,f⟩
  show qZ I (by rw[e];show True.intro) hs S (vv i j (d.put k J) dd')
 ·subst m x
  cases(show u=Value.ref b from L);obtain⟨z,j,O,d,p⟩:=Lp I.hok e;let n:O.length<=sizeLine:=by rwa[<- Paired.length d]
  let i:(dm c k v).length<=sizeLine:=by have:=gQ c k v;lia
  show wpAny_setItem_heap (QX W) (mO I.hok C) p λh' dd' hs=>h _ ?_;let⟨q,M,R,f,Z,U,T,_,Y⟩:=dd';show qZ I (by rw[e];show True.intro) hs ⟨q,f⟩ ⟨i,j,_,(d.put k C J).keeps λc ys ec=> ?_,q,M,R,f,Z,U,T,Y⟩;rwa[aA (LX ec e (λz=>nomatch z))]
end
section
variable{X:Cx}{pins:List (Addr×Obj)}{σ:St}{H:Hp}{s:Shared}{a:Addr}{kvs:List (af×V)}{k:af}{u:Value}{A:Around}{E:Value->Shared->Prop}
def Lr(I:Inv X pins σ H s)(e:Rd H a (.dK kvs))(h:∀t c,Inv X pins σ H c ->Q (.int kvs.length t) c):wpAny (model X.prog X.w) A (call (.builtin "len") [.ref a]) Q E s:=by show X_03 (λz f=>X_12 λg b d=> ?_) (k8 I.hok e);show call_len_dict f d (by rw[<- b.length];rw[N4]at z;lia) ?_;rw[<- b.length];show h _ _ (I.tok _)
end
def KB(i:Expr):Prop:=∀a b,subscripted i false a b=operate [a,b] (getItem a b)
def Dv{A:Around}{s:Shared}
  (m:typeLookup (.type T) "__getitem__"=pure (some (.builtin l))) (j:KB b)
  (h:wpAny (model a w) A (eval c f) (λo s₁=>wpAny (model a w) A (eval b f) (λi s₂=>s₂.TypeIs o T/\wpAny (model a w) A (getItem o i) Q E s₂) E s₁) E s) :
  wpAny (model a w) A (eval (.Subscript c b pos) f) Q E s:=by
 show Subscript_ (OR h (λo s₁ h₁=>OR h₁ (λi s₂ d=> ?_) λ_ _ x=>x) λ_ _ x=>x);let⟨g,d⟩:=d;show M1 ?_;show M1 (wpAny_specialOf g m ?_);let e:wpAny (model a w) A (subscripted b false o i) (λr s₃=>wpAny (model a w) A (letTemporaryGo c o r >>= λ_=>pure r) Q E s₃) E s₂:=by rw[j o i];show wpAny_operating (OR d (λr s₃ h₃=>M1 (wpAny_letTemporaryGo (NK h₃))) λ_ _ x=>x)
 first
  |show NK (M1 e)
  |show M1 (NK (M1 e))
  |show M1 e
def uR{s:Shared}{o:Option V}(I:Inv X c h H s)(g:fV H a y o):s.TypeIs (.ref a) "dict":=by
 rcases g with⟨f,k,e,_,_⟩|⟨f,k,b,e,_,_,_⟩
 ·show X_03 (λ_ _=>X_12 λj _ d=> ?_) (k8 I.hok e)
  show d.typeIs
 ·show X_03 (λ_ _=>X_12 λi _ d=> ?_) (o5 I.hok e)
  show d.typeIs
def Kl(b c:TE):TE:=λσ H Q=>b σ H λx H1=>c σ H1 λy H2=>∃a v,x=.ref a/\fV H2 a y (some v)/\Q v H2
def Dt(c b:TE):TE:=λσ H Q=>c σ H λy H1=>b σ H1 λx H2=>∃a o,x=.ref a/\fV H2 a y o/\Q (.bl (!o.isSome)) H2
def K6(c e d:TE):TS:=λD σ H=>d σ H λv H1=>c σ H1 λx H2=>e σ H2 λy H3=>∃a b,x=.ref a/\qw H3 a y v b/\D.nx σ b
section
variable{X:Cx}{o i e value:Expr}{pos pos' tpos:Pos}{td ty tv:TE}
def lQ(q:X.A.units+1<cLine)(m:PE X o td)(p:PE X i ty)(f:KB i):PE X (.Subscript o i pos) (Kl td ty):=by intro b s c H Q I h;show Dv PySem.F.slot_dict_getitem.lookup f (ar (m b s c H _ I h) λu s1 ⟨x,H1,I1,rx,q1⟩=>ar (p b s1 c H1 _ I1 q1) λiv s2 hpq=> ?_);show X_23 (λy l d r=>X_23 λa v n g j=> ?_) hpq;subst n;obtain rfl:u=Value.ref a:=rx;show⟨uR d g,zT q d g r λw' s3 I3 rw' =>⟨v,l,I3,rw',j⟩⟩
def oQ(q:X.A.units+1<cLine)(n:PE X i ty)(j:PE X o td):PC X .NotIn i o (Dt ty td):=by intro b s c H Q I h;show ar (n b s c H _ I h) λiv s1 ⟨y,H1,I1,ry,q1⟩=>ar (j b s1 c H1 _ I1 q1) λu s2 hpq=> ?_;show X_23 (λx f l p=>X_23 λa r m g d=> ?_) hpq;subst m;obtain rfl:u=Value.ref a:=p;show Fc q l g ry λs3 I3=>⟨.bl (!r.isSome),f,I3,rfl,d⟩
def je(j:X.A.units+1<cLine)(l:PE X o td)(f:PE X i ty)(m:PE X value tv)(d:swapsWith value (some (.Subscript o i pos')) pos.line X.env=pure false) :
  PS X (.Assign [.Subscript o i pos'] value pos) (K6 td ty tv):=by
 intro b s c H D I h;show wpAny_Assign_Subscript (ar (m b s c H _ I h) λr s1 ⟨v,H1,I1,rv,q1⟩=>ar (l b s1 c H1 _ I1 q1) λu s2 ⟨x,H2,I2,rx,q2⟩=>ar (f b s2 c H2 _ I2 q2) λiv s3 ⟨y,H3,I3,ry,a,H4,ex,g,q3⟩=> ?_) d;subst ex;obtain rfl:u=Value.ref a:=rx;show zS j I3 g ry rv λs4 I4=>⟨c,H4,I4,q3⟩
end
theorem uQ{P:Program}(h:Heap)(a:sysModules<h.objs.size):aw P w H (h.push {cls:=.type "dict",data:=.dict #[]}) h.objs.size (.dK []) := ⟨No _,Pe.mpr (OC (Na a)),[],.nil,Heap.DictOf.new h⟩
def HK:TE:=λ_ H Q=>∀p,H p=none->Q (.ref p) (upd H p (.dK []))
section
variable{X:Cx}{pos:Pos}
theorem ji:PE X (.Dict [] [] pos) HK:=λpins s σ H Q I h =>
 wpAny_Dict_empty ⟨.ref s.heap.objs.size,_,I.laid (λ_ _ q=>M3 _ q) (NB _) (uQ s.heap I.big),rfl,h _ (I.hok.fresh (NB _))⟩
end
def vC:List (TE×TE)->St->Hp->(List (V×V)->Hp->Prop)->Prop
 |[],_,H,Q=>Q [] H|(tk,tv)::r,σ,H,Q=>tk σ H λx H1=>tv σ H1 λy H2=>vC r σ H2 λps H3=>Q ((x,y)::ps) H3
abbrev VV:List (V×V)->List (Value×Value)->Prop:=Paired λp q=>RelV p.1 q.1/\RelV p.2 q.2
def PPs(X:Cx)(pos:Pos)(c:List (Option Expr))(a:List Expr)(e:List (TE×TE)):Prop :=
 ∀(b:List (Addr×Obj))(s:Shared)(d:St)(H:Hp)(Q:List (V×V)->Hp->Prop),Inv X b d H s->vC e d H Q -> wpAny (model X.prog X.w) X.A (evalPairs (pairTrees c a X.env pos)) (λvs s' =>∃f g,Inv X b d g s' /\VV f vs/\Q f g) X.xe s
theorem wu:PPs X pos [] [] []:=λpins s σ H Q I h=>pairTrees_nil_walk (Y_23 ([]) H I .nil h)
theorem si{k:Expr}(f:PE X k d)(i:PE X v c)(g:PPs X pos e b a) :
  PPs X pos (some k::e) (v::b) ((d,c)::a):=λpins s σ H Q I h =>
 pairTrees_cons_walk (ar (f pins s σ H _ I h) λu s1 ⟨x,H1,I1,rx,q1⟩=>ar (i pins s1 σ H1 _ I1 q1) λw2 s2 ⟨y,H2,I2,ry,q2⟩ =>ar (g pins s2 σ H2 _ I2 q2) λws s3 ⟨ps,H3,I3,rel,q3⟩=>⟨(x,y)::ps,H3,I3,.cons ⟨rx,ry⟩ rel,q3⟩)
def gO(b a:List (af×V)):List (af×V):=a.foldl (λacc kv=>dm acc kv.1 kv.2) b
def KV.merge:∀{b:List (af×V)}{d:List (af×Value)}{a:List (af×V)}{c:List (af×Value)},KV b d->KV a c->KV (gO a b) (merged c d):=by
 intro b d a c r;unfold KV at r
 induction r generalizing a c with
 |nil=>intro q;show q| @cons p q i j h t g =>
  intro f;let e:KV (dm a p.1 p.2) (stored c q.1 q.2):=by have:=f.put p.1 h.2;rwa[<- h.1]
  show g e
theorem iF:∀(b a:List (af×V)),(gO a b).length<=a.length+b.length
 |[],a=>by change a.length<=a.length+0;lia|p::r,a=>by let c:=iF r (dm a p.1 p.2);let d:=gQ a p.1 p.2;change(gO (dm a p.1 p.2) r).length<=_;rw[NW];lia
theorem mz{P:Program}{w:World}:∀{d:List (af×V)}{f:List (Value×Value)},VV (d.map λkv=>(kV kv.1,kv.2)) f->∃e,Carries (aZ P w) f e/\KV d e
 |[],_,r=>by rw[OH]at r;ext r;exists [],True.intro,.nil|p::d,_,r=>by
  rw[NE]at r;cases r with
  | @cons a b i j h t =>obtain⟨e,c,q⟩:=mz t;obtain⟨b1,g⟩:=b;exists (p.1,g)::e,⟨oh h.1,rfl,c⟩,.cons ⟨rfl,h.2⟩ q
def Kk(b:List (TE×TE)):TE:=λσ H Q=>∀p,H p=none->vC b σ (upd H p (.dK [])) λps H2=>H2 p=some (.dK [])/\∃a:List (af×V),ps=a.map (λkv=>(kV kv.1,kv.2))/\a.length<=15/\Q (.ref p) (upd H2 p (.dK (gO [] a)))
def wz(h:PPs X pos b d j)(i:b.all (·.isSome)=true)(u:b.length=d.length)(O:b≠[])
  (m:b.length<=15):PE X (.Dict b d pos) (Kk j):=by
 intro g s r H Q I q;show wpAny_Dict_walk (knd:=aZ X.prog X.w) i u O m (ar (h g _ r _ _ (I.laid (t' :=s.toks) (λ_ _ q=>M3 _ q) (NB _) (uQ s.heap I.big)) (q _ (I.hok.fresh (NB s.heap.objs.size)))) λws s2 hpq=> ?_);show X_24 (λT R n l e=>X_13 λf D S p=> ?_) hpq;subst D;obtain⟨K,c,N⟩:=mz l;show X_03 (λz v=>X_12 λM L C=> ?_) (mi n.hok e);ext L;exists K,c,C,λh' dd' hs=>⟨.ref s.heap.objs.size,_,?_,rfl,p⟩;let y:(gO [] f).length<=sizeLine:=by let E:=iF f [];rw[List.length_nil]at E;rw[N4];lia
 let J:∃q,h'.get? s.heap.objs.size=some q:=let⟨q,_,_,hq,_⟩:=dd';⟨q,hq⟩
 show qZ n (by rw[e];show True.intro) hs J (vv y v (N.merge .nil) dd')
structure M2(X:Cx)(o:Expr)(m:Str)(apos:Pos)(e f:Expr)(cpos:Pos):Prop where
 base:attributeBase o m X.env (eval o X.env)=eval o X.env
 few:((backTo cpos (starEach [e,f] X.env)).all (fun x=> !x.1)&&(backToKw cpos (keywordEach [] X.env)).all (fun x=>x.1.isSome)
  && decide (([e,f]:List Expr).length+([]:List Keyword).length+(if([]:List Keyword).isEmpty then 0 else 1)<30))=true
 line:(apos.endLine==cpos.line)=true
 trees:backTo cpos (starEach [e,f] X.env)=[(false,eval e X.env),(false,eval f X.env)]
def IsD(H:Hp)(a:Addr):Prop:=(∃b,Rd H a (.dK b))\/∃b,Rd H a (.dT b)
def Iq{m:St}{s:Shared}(I:Inv X g m H s)(d:IsD H a) :
  s.TypeIs (.ref a) "dict"/\(∀b,Value.ref a=.ref b->∃c,s.heap.get? b=some c/\c.dict=none)/\(a==sysModules)=false:=by
 rcases d with⟨i,e⟩|⟨i,e⟩
 ·show X_03 (λ_ j=>X_12 λo _ f=> ?_) (k8 I.hok e)
  show⟨f.typeIs,λb q=> ?_,j⟩;ext q;let⟨c,_,_,h,l,_⟩:=f;exists c,h,l.2.1
 ·show X_03 (λ_ j=>X_12 λn _ f=> ?_) (o5 I.hok e)
  show⟨f.typeIs,λb q=> ?_,j⟩;ext q;let⟨c,_,_,h,l,_⟩:=f;exists c,h,l.2.1
section
variable{X:Cx}{pins:List (Addr×Obj)}{σ:St}{H:Hp}{s:Shared}{a:Addr}{y d:V}{u r:Value}{o:Option V}{A:Around}{E:Value->Shared->Prop}
def Jc(D:A.units+1<cLine)(I:Inv X pins σ H s)(g:fV H a y o)(v:RelV y u)(n:RelV d r)(h:∀p q,Inv X pins σ H q ->RelV (o.getD d) p ->Q p q) :
  wpAny (model X.prog X.w) A (call (.builtin "dict.get") [.ref a,u,r]) Q E s:=by
 rcases g with⟨i,k,e,m,l⟩|⟨i,k,b,e,m,x,l⟩
 ·subst m
  show X_03 (λz j=>X_12 λJ c f=> ?_) (k8 I.hok e);show call_meetsIn PySem.F.slot_dict_get f.typeIs PySem.F.entry_dict_get (PySem.F.args_dict_get_3 _ _ _) (meets_dict_get_default (aZ X.prog X.w) a (oh v) j r) (Y_12 _ f.mapOf (h _ _ (I.tok _) ?_));rw[l];show(c.val k).getD n
 ·subst m
  cases(show u=Value.ref b from v);show X_03 (λz j=>X_12 λC c f=> ?_) (o5 I.hok e);show call_meetsIn PySem.F.slot_dict_get f.typeIs PySem.F.entry_dict_get (PySem.F.args_dict_get_3 _ _ _) (meetsH_dict_get_default (tupleKind (aZ X.prog X.w)) a b j r) ⟨QX D,Y_23 k C (mO I.hok x) f (h _ _ (I.tok _) ?_)⟩;rw[l];show(c.val k).getD n
end
def HL(b d c:TE):TE:=λσ H Q=>b σ H λx H1=>∃a,x=.ref a/\IsD H1 a/\d σ H1 λy H2=>c σ H2 λz H3=>∃o,fV H3 a y o/\Q (o.getD z) H3
section
variable{X:Cx}{o e f:Expr}{apos cpos:Pos}{td ty tx:TE}
def sy(w:X.A.units+1<cLine)(l:PE X o td)(q:PE X e ty)(r:PE X f tx)(m:M2 X o "get" apos e f cpos):PE X (.Call (.Attribute o "get" apos) [e,f] [] cpos) (HL td ty tx):=by
 intro b s c H Q I h;show wpAny_Call_method m.base m.few m.line Pp PySem.F.slot_dict_get PySem.F.type_dict_get (ar (l b s c H _ I h) λu s1 hpq=> ?_);show X_23 (λx j i p=>X_13 λa n d v=> ?_) hpq;subst n;obtain rfl:u=Value.ref a:=p;let⟨t1,C,_⟩:=Iq i d;show⟨t1,C,?_⟩;rw[m.trees]
 show QD rfl (Calls.evalArgs_plain (Calls.spliced_cons (ar (q b s1 c j _ i v) λiv s2 ⟨y,H2,I2,ry,q2⟩ =>Calls.spliced_cons (ar (r b s2 c H2 _ I2 q2) λfv s3 ⟨z,H3,I3,rz,ov,g,q3⟩=>Calls.spliced_nil ?_))))
 show Jc w I3 g ry rz λw' s4 I4 rw' =>⟨_,H3,I4,rw',q3⟩
end
section
variable{X:Cx}{pins:List (Addr×Obj)}{σ:St}{H:Hp}{s:Shared}{a:Addr}{kvs:List (af×V)}{A:Around}{E:Value->Shared->Prop}
def Cr(I:Inv X pins σ H s)(e:Rd H a (.dK kvs))(h:∀p d,H p=none->Inv X pins σ (upd H p (.dK kvs)) d ->Q (.ref p) d):wpAny (model X.prog X.w) A (call (.type "dict") [.ref a]) Q E s:=by show X_03 (λz g=>X_12 λi c f=> ?_) (k8 I.hok e);show kt_call_dict g f (by rwa[<- c.length]) λh' dd' hs=> ?_;show h _ _ (I.hok.fresh (NB _)) (I.laid (λb q hq=> ?_) (NB _) (vv z (Pe.mpr (OC (Na I.big))) c dd'));show(hs.2 b (Na (NQ hq))).trans (M3 _ hq)
end
def G7(a:List Nat):Str:=⟨a.toArray⟩
theorem iU:∀a:List Nat,Str.join ⟨#[]⟩ (a.map λc=>(⟨#[c]⟩:Str))=G7 a
 |[]=>rfl|[c]=>rfl|c::d::a=>by
  let b:=iU (d::a);change(⟨#[c]⟩:Str)++⟨#[]⟩++Str.join ⟨#[]⟩ ((d::a).map λc=>(⟨#[c]⟩:Str))=_;rw[b]
  apply UM.pQ
  rw[QC,QC];simp[G7]
theorem Ld(a:List Nat):Txt.join ⟨#[]⟩ (a.map λc=>(⟨#[c]⟩:Str))=G7 a:=(PySem.StrLaws.glued_eq_join _ _).trans (iU a)
def yS(a:List Nat):((a.map λc=>(⟨#[c]⟩:Str)).map (·.length)).sum+(a.map λc=>(⟨#[c]⟩:Str)).length*(⟨#[]⟩:Str).length=a.length:=by
 let e:(⟨#[]⟩:Str).length=0:=rfl;rw[e,Nat.mul_zero,Nat.add_zero,NY]
 induction a with
 |nil=>rfl|cons c a b =>rw[NE,Oy,b,NW];change 1+_=_;lia
def cd(a:List Str)(i j:Nat):Nat:=((a.getD i ⟨#[]⟩).cps.toList).getD j 0
def fl(c:Nat):Nat:=if c=120 then 46 else 120
def sg(o:Bool)(c:Nat):Nat:=if o then fl c else c
def Wd(a:List Str)(w:Nat):Prop:=∀r∈a,r.length=w
def MT(d:Wd a w)(c:i<a.length)(g:j<w):∃z,a[i]? =some z/\z.cps.toList[j]? =some (cd a i j)/\z.length=w:=by
 let e:=M5 c;let f:=d a[i] (OE c);let b :j<a[i].cps.toList.length:=by rw[Ng];change j<a[i].length;lia
 exists a[i],e,?_,f;unfold cd;rw[M6,M6,e,O4,M5 b,O4]
open AutoSeq1 (wpAny_loadPart')
open AutoSeq1 (wpAny_loadPart')
section
variable{P:Program}{w:World}{A:Around}{E:Value->Shared->Prop}{s:Shared}
def IQ{v:Value}(g:s.heap.IsTupleIter b a i)(m:s.heap.IsTuple a d)(j:d[i]? =some v)
  (k:∀f,f.IsTupleIter b a (i+1)->Heap.SameBut b s.heap f ->Q v {s with heap:=f}):wpAny (model P w) A (Builtin.SmallTypes.nextOf (.ref b)) Q E s:=by
 let⟨r,e,l,c⟩:=id g;show X_13 (λq h _=>X_11 λo n=> ?_) m;show M1 (P4 g.typeIs F.slot_tuple_iterator_next (Ob F.slot_tuple_iterator_next g.typeIs F.entry_tuple_iterator_next ?_ (F.args_tuple_iterator_next_1 _)));change wpAny _ _ (field (.ref b) 0 >>= λ_=>_) _ _ s;show M1 (P2 e c rfl ?_);show M1 (P2 e c rfl ?_);show M1 (wpAny_seqItems h n ?_);simp only[N9,j];show M1 (PF e c 03 (NK (Y_12 v rfl (NK (k _ ?_ (Pr ..))))));exists _,OB _ e (Ox (OZ c _)),(Qa ..).trans l,by rw[OZ c];simp[rawInt]
def vW(j:A.handled=none)(h:s.heap.IsTupleIter c a i)(p:s.heap.IsTuple a b)(n:b[i]? =none)
  (k:∀d e,Heap.ExtBut c s.heap d ->(∃o,d.get? e=some o/\o.cls=.type "StopIteration")->E (.ref e) {s with heap:=d}):wpAny (model P w) A (Builtin.SmallTypes.nextOf (.ref c)) Q E s:=by
 let⟨r,g,y,f⟩:=id h;show X_13 (λq l _=>X_11 λv u=> ?_) p;show M1 (P4 h.typeIs F.slot_tuple_iterator_next (Ob F.slot_tuple_iterator_next h.typeIs F.entry_tuple_iterator_next ?_ (F.args_tuple_iterator_next_1 _)));change wpAny _ _ (field (.ref c) 0 >>= λ_=>_) _ _ s;show M1 (P2 g f rfl ?_);show M1 (P2 g f rfl ?_);show M1 (wpAny_seqItems l u ?_);simp only[N9,n];show M1 (wpAny_rule (M1 (PF g f 03 ?_)));show M1 ?_;show M1 (Om ?_ (by size_fits));show M1 (wpAny_of_eq (by first|(simp only[firstArgMember];rfl)|rfl) ?_);show Om ?_ (by size_fits);show M1 (wpAny_handled ?_)
 first|rw[j]|rw[show A.in1.handled=none by show j]
 show M1 (NK (wpAny_throw ?_));show k _ _ (((Pr ..).extBut.push _).push _) (Y_12 _ (NR _ rfl) rfl)
end
theorem zR{P:Program}{w:World}{A:Around}(g:A.handled=none)(c a:Addr)(f:a≠c)(b:Array Value) :
  Draws P w A c [c,a] b.size (λi v=>b[i]? =some v) (λi h=>h.IsTupleIter c a i/\h.IsTuple a b) where
 live:=λ_ _ st=>by obtain⟨⟨r,d,_⟩,_⟩:=st;show⟨r,d⟩
 frame:=λ_ _ _ st k=>⟨st.1.at λo e=>k c 03 o e,st.2.at λo e=>k a 03 o e⟩
 item:=λi s Q E hi st q=>by show IQ st.1 st.2 (v:=b[i]) (by simp[hi]) λh' t' sb=>q _ h' s.toks (by simp[hi]) ⟨t',st.2.extBut sb.extBut f⟩ sb
 done:=λs Q E st q=>vW g st.1 st.2 03 q
open AutoSeq1 (wpAny_loadPart')
open J in
theorem tQ(a:Addr)(e:Array Value)(n:Nat)(j:Option Addr)(o:Array (Option Value)) :
  Meets (Builtin.«enumerate.__new__» ⟨[.type "enumerate",.ref a],[]⟩) (λ_ R s=>s.heap.get? a=some {cls:=.type "tuple",dict:=j,data:=.seq e n,slots:=o} /\ R (.ok (.ret (.ref (s.heap.push {cls:=.type "tuple_iterator",data:=.fields #[.ref a,.int 0 0]}).objs.size))) {s with heap:=(s.heap.push {cls:=.type "tuple_iterator",data:=.fields #[.ref a,.int 0 0]}).push {cls:=.type "enumerate",data:=.fields #[.none,.bool false,.ref s.heap.objs.size,rawInt 0,.none,.none]}}) :=
 .of_wp λprog w A R s h=>by
  obtain⟨p,g,d,l,m⟩:=s;let⟨b,h⟩:=h;let i:=sub_enumerate;let f:Heap.IsTuple (Shared.heap ⟨p,g,d,l,m⟩) a e:=⟨_,b,rfl,n,rfl⟩
  wp_walk using Oz b
  show wpAny_stack_any λ_=>NK ?_
  split
  ·rename_i c _ _ _ _ _
   cases(c==Value.type "enumerate")
   ·wp_walk using Oz b,QW f
    exists _,rfl,h
   ·wp_walk using Oz b,QW f
    exists _,rfl,h
  ·wp_walk using Oz b,QW f
   exists _,rfl,h
def wB{P:Program}{A:Around}{s:Shared}(l:s.heap.IsTuple a d)
  (k:∀e,IsEnum e (s.heap.objs.size+1) s.heap.objs.size 0 .none->e.IsTupleIter s.heap.objs.size a 0->(∀b o,s.heap.get? b=some o->e.get? b=some o)->Q (.ref (s.heap.objs.size+1)) {s with heap:=e}) :
  wpAny (model P w) A (call (.type "enumerate") [.ref a]) Q E s:=by
 obtain⟨⟨c,j,r,m⟩,p,g,n,f⟩:=l;subst g f;show callType_new F.called_enumerate 02 (F.typeCall_enumerate_1 _) (F.newCall_enumerate_1 _) (λob=>F.args_object_init_2 ob _) F.entry_enumerate_new (tQ a d n j m) ⟨p,?_⟩;let h:(s.heap.push {cls:=.type "tuple_iterator",data:=.fields #[.ref a,.int 0 0]}).objs.size=s.heap.objs.size+1:=Of ..;rw[h];let i:IsEnum ((s.heap.push {cls:=.type "tuple_iterator",data:=.fields #[.ref a,.int 0 0]}).push {cls:=.type "enumerate",data:=.fields #[.none,.bool false,.ref s.heap.objs.size,rawInt 0,.none,.none]}) (s.heap.objs.size+1) s.heap.objs.size 0 .none:=by let q:=NR (s.heap.push {cls:=.type "tuple_iterator",data:=.fields #[.ref a,.int 0 0]}) (o:={cls:=.type "enumerate",data:=.fields #[.none,.bool false,.ref s.heap.objs.size,rawInt 0,.none,.none]}) rfl;rwa[h]at q
 show⟨⟨_,i,rfl⟩,k _ i ⟨_,M3 _ (NR _ rfl),rfl,rfl⟩ λb o y=>M3 _ (M3 _ y)⟩
def KL(b:Hp->List V->Prop):It :=
 ⟨λi H=>∃a x,b H a/\a[i]? =some x,λi H v H' =>∃p,H p=none/\v=.ref p/\∀a x,b H a->a[i]? =some x->H' =upd H p (.tup [.int (i:Nat),x]),λi H=>∃a,b H a/\a.length=i⟩
structure x9(P:Program)(w:World)(K:W.Frag)(src:Hp->List V->Prop)(e it:Addr)(tn:Nat->Heap->Prop):Prop where
 ne:e≠it
 obj:∀i h,tn i h->∃o,h.get? it=some o/\∀v,o.data≠.cell v
 keep:∀i h h',tn i h->(∀o,h.get? it=some o->h'.get? it=some o)->tn i h'
 inj:∀(X:Cx) pins s σ H xs ys,X.K=K->Inv X pins σ H s->src H xs->src H ys->xs=ys
 draws:∀(X:Cx) pins s σ H xs (i:Nat),X.prog=P->X.w=w->X.K=K->X.calm=true->Inv X pins σ H s->src H xs->tn i s.heap->∃(fp:List Addr)(Pw:Nat->Value->Prop)(St:Nat->Heap->Prop),
  Draws P w X.A.in1 it fp xs.length Pw St/\e∉fp/\St i s.heap/\(∀j v x,Pw j v->xs[j]? =some x->RelV x v)/\∀j h,St j h->tn j h
def kO{P:Program}{w:World}{K:W.Frag}{es:List Expr}{kt:Nat}{O:Pos}{J:Hp->List V->Prop}{e n:Addr}{tn:Nat->Heap->Prop}(S:x9 P w K J e n tn) :
  uh P w K (.Tuple es kt O) (KL J) [e,n] e (λi h=>(∃b,IsEnum h e n (i:Nat) b)/\tn i h) where
 mem:=by simp
 obj:=λi h g c p=>by
  obtain⟨⟨b,f⟩,l⟩:=g;simp only[NH,Nk,Oa]at p
  rcases p with rfl|rfl
  ·exists _,f,λv z=>by ext z
  ·show S.obj i h l
 keep:=λi h h' g k=>by obtain⟨⟨b,f⟩,l⟩:=g;show⟨⟨b,k e 03 _ f⟩,S.keep i h h' l λo q=>k n 03 o q⟩
 item:=by
  intro X N v A p i a s r H E I T g U;obtain⟨⟨b,f⟩,l⟩:=g;let⟨R,x,Q,L⟩:=U;let⟨fp,Pw,St,D,C,m,j,d⟩:=S.draws X a s r H R i N v A p I Q l;subst N v A;let M:=NQ f;let Z:n<s.heap.objs.size:=by let⟨o,Y,_⟩:=S.obj i _ l;show NQ Y
  show wpAny_pyNext_enum_itemD D f m ((NC.mp L).1) S.ne C λu h' tk hu Y hst' hT hsz hk=> ?_;exists _,rfl,wpAny_letOwnedTupleGo_enum Y λh'' he' hs' => ?_;let kk:∀c o,c∉[e,n]->s.heap.get? c=some o->h''.get? c=some o:=λc o hc' y=>by simp only[NH,Nk,Oa,not_or]at hc';show(hs'.2 c hc'.1).trans (hk c o hc'.1 hc'.2 y)
  let I1:Inv X a r (upd H s.heap.objs.size (.tup [.int i,x])) {s with heap:=h'',toks:=tk+1} :=
   I.drew T kk (NB _) ⟨by change 2<=sizeLine;decide,[.int i tk,u],.cons ⟨tk,rfl⟩ (.cons (j i u x hu L) .nil),⟨_,(hs'.2 _ (Oi M)).trans hT,rfl,_,rfl,rfl⟩⟩
  exists .ref s.heap.objs.size,_,I1,rfl,⟨s.heap.objs.size,I.hok.fresh (NB _),rfl,λxs' x' hs2 hx2=> ?_⟩,⟨⟨u,by simpa using he'⟩,S.keep _ _ _ (d _ _ hst') λo y=>(hs'.2 n S.ne.symm).trans y⟩,λc hc' => ?_
  ·let q:=S.inj X a s r H _ _ rfl I Q hs2
   subst q;rw[L]at hx2;ext hx2;rfl
  ·rw[aA ?_]
   ·show(T c hc').1
   ·simp only[NH,Nk,Oa]at hc'
    rcases hc' with rfl|rfl
    ·show Na M
    ·show Na Z
 done:=by intro X N v A p i a s r H E I T g U;obtain⟨⟨b,f⟩,l⟩:=g;let⟨R,Q,L⟩:=U;let⟨fp,Pw,St,D,C,m,j,d⟩:=S.draws X a s r H R i N v A p I Q l;subst L;show wpAny_pyNext_enum_endD D f m λh' hk=>⟨rfl,I.drew0 T λc o hc' y=>hk c o (by simp only[NH,Nk,Oa,not_or]at hc';show hc'.2) y⟩
 self:=λ_ _ _ _ _ g h=>by obtain⟨⟨b,f⟩,_⟩:=g;show QZ f h
theorem zP{P:Program}{w:World}{K:W.Frag}{a e c:Addr}(f:e≠c)(g:a≠c)(q:a≠e):x9 P w K (λH xs=>dg K H a xs) e c (λi h=>h.IsTupleIter c a i) where
 ne:=f
 obj:=λi h st=>by let⟨o,m,_,d⟩:=st;exists o,m,λv z=>by rw[d]at z;ext z
 keep:=λi h h' st k=>st.at k
 inj:=λX pins s σ H xs ys hK I f g=>by subst hK;show I.tuple_inj f g
 draws:=λX pins s σ H xs i hP hw hK hc I hs ht=>by
  subst hP hw hK;let⟨b,r,p,_⟩:=I.tuple hs;let D:=zR (P:=X.prog) (w:=X.w) (A:=X.A.in1) (I.ok.hd hc) c a g b.toArray;rw[NM,<-r.length]at D;exists _,_,_,D,by simp[f,q.symm],⟨ht,p⟩,λj v x hv hx=> ?_,λj h st=>st.1;let⟨u,y,n⟩:=r.get hx;let e:b[j]? =some v:=by simpa using hv
  rw[y]at e;ext e;show n
theorem zQ{P:Program}{w:World}{K:W.Frag}{z:Str}{t:Tok}{e f:Addr}(b:e≠f):x9 P w K (λ_ xs=>xs=eA z) e f (λi h=>h.IsStrIter f (strIterType z) z t i) where
 ne:=b
 obj:=λi h st=>by let⟨o,g,_,d⟩:=st;exists o,g,λv z=>by rw[d]at z;ext z
 keep:=λi h h' st k=>by let⟨o,g,r⟩:=st;exists o,k o g,r
 inj:=λX pins s σ H xs ys hK I b h2=>by rw[b,h2]
 draws:=λX pins s σ H xs i hP hw hK hc I hs ht=>by
  subst hP hw hK hs;let l:(eA z).length=z.cps.size:=by rw[ly];rfl
  let a:∀j v x,(∃c u,z.cps[j]? =some c/\v=.str ⟨#[c]⟩ u)->(eA z)[j]? =some x->RelV x v:=λj v x hv hx=>by let⟨c,u,m,rfl⟩:=hv;unfold eA at hx;rw[NG,OW,m]at hx;ext hx;show⟨u,rfl⟩
  rw[l];cases n:z.cps.all (·<128)with
  |true =>
   let e:strIterType z="str_ascii_iterator":=by unfold strIterType;rw[M9 n]
   rw[e]at ht ⊢;exists _,_,_,Draws.strAscii (A:=X.A.in1) (I.ok.hd hc) f z t,by simp[b],ht,a,λj h st=>st
  |false =>
   let e:strIterType z="str_iterator":=by unfold strIterType;rw[NJ (by rw[n];show ND)]
   rw[e]at ht ⊢;exists _,_,_,Draws.strWide (A:=X.A.in1) (I.ok.hd hc) f z t,by simp[b],ht,a,λj h st=>st
section
variable{X:Cx}
def JA(K:W.Frag)(c:TA):TI:=λσ H R=>c σ H λvs H1=>∃a b,vs=[.ref a]/\dg K H1 a b/\R (KL λH b=>dg K H a b) H1
def JB(a:TA):TI:=λσ H R=>a σ H λvs H1=>∃z,vs=[.str z]/\R (KL λ_ xs=>xs=eA z) H1
def BQ(w:Gl X "enumerate")(A:X.mg "enumerate"=none)(C:PA X [a] j)(n:starEach [a] X.env=[(false,eval a X.env)]:=by rfl) :
  PI X (.Tuple v E d) (.Call (.Name "enumerate" p) [a] [] pos) (JA X.K j):=by
 intro b s f H R I h;show Call_ (fP I w A boot_enumerate (ON (ar (C pos b s f H _ I h) λus s1 ⟨vs,H1,I1,r1,q1⟩=> ?_) n rfl));let⟨l,J,e,D,q⟩:=q1;subst e;let⟨u,rfl,y⟩:=vals1 r1;ext y;let⟨z,r,g,_⟩:=I1.tuple D;let i:l<s1.heap.objs.size:=by let⟨o,e,_⟩:=id g;show NQ e
 show wB g λh' he hit hk=> ?_;show QZ he ?_;exists s1.heap.objs.size+1,[s1.heap.objs.size+1,s1.heap.objs.size],_,_,H1,rfl,I1.kept (t' :=s1.toks) hk,kO (zP (Nat.succ_ne_self _) (Na i) (Na (OG i))),⟨⟨_,he⟩,hit⟩,λc hc=> ?_,q;let m:s1.heap.objs.size<=c:=by
  simp only[NH,Nk,Oa]at hc
  rcases hc with rfl|rfl<;>lia
 show I1.fpOk m (I1.hok.fresh m)
def BR(m:Gl X "enumerate")(o:X.mg "enumerate"=none)(r:PA X [a] g)(j:starEach [a] X.env=[(false,eval a X.env)]:=by rfl) :
  PI X (.Tuple l v d) (.Call (.Name "enumerate" p) [a] [] pos) (JB g):=by
 intro b s f H R I h;show Call_ (fP I m o boot_enumerate (ON (ar (r pos b s f H _ I h) λus s1 ⟨vs,H1,I1,r1,q1⟩=> ?_) j rfl));let⟨z,e,q⟩:=q1;subst e;show X_12 (λu R1=>X_11 λt R3=> ?_) (vals1 r1);subst R1 R3;show call_enumerate_str λh' he hit _ hk=> ?_;show QZ he ?_;exists s1.heap.objs.size+1,[s1.heap.objs.size+1,s1.heap.objs.size],_,_,H1,rfl,I1.kept (t' :=s1.toks) hk,kO (zQ (Nat.succ_ne_self _)),⟨⟨_,he⟩,hit⟩,λc hc=> ?_,q;let i:s1.heap.objs.size<=c:=by
  simp only[NH,Nk,Oa]at hc
  rcases hc with rfl|rfl<;>lia
 show I1.fpOk i (I1.hok.fresh i)
def Cc{src:Hp->List V->Prop}{b:List V}{g:TG}{o:TS}{D:dX}(c:Nat->St->Hp->Prop)(z:c 0 a H)(w:∀i a H,i<=b.length->c i a H->src H b)
  (q:∀i x p a H,b[i]? =some x->H p=none->c i a H->g (.ref p) a (upd H p (.tup [.int (i:Nat),x])) λσ2 H2=>o {D with nx:=c (i+1),ct:=c (i+1),bk:=D.nx} σ2 H2) (r:∀a H,c b.length a H->D.nx a H) :
  ∃W:Nat->Nat->St->Hp->Prop,(∃m,W 0 m a H)/\∀i m a H,W i m a H -> ((KL src).stop i H/\D.nx a H)\/((KL src).go i H/\∃N:St->Hp->Prop,(∀f d,N f d ->∃n,n <m/\W (i+1) n f d)/\∀x d,(KL src).yld i H x d ->g x a d λσ2 H2=>o {D with nx:=N,ct:=N,bk:=D.nx} σ2 H2):=by
 exists λi m a H=>m=b.length-i/\i<=b.length/\c i a H,Y_13 b.length 03 (No _) z,?_;intro i m a H zm;let⟨rfl,v,p⟩:=zm;let j:=w i a H v p
 by_cases h:i<b.length
 ·let l:b[i]? =some b[i]:=by simp[h]
  show .inr ⟨⟨b,_,j,l⟩,Y_12 (c (i+1)) (λσ' d p' =>⟨b.length-(i+1),00,rfl,h,p'⟩) (λx d y=> ?_)⟩;obtain⟨u,s,rfl,y⟩:=y;let e:=y b _ j l;subst e;show q i _ u a H l s p
 ·let e:i=b.length:=by lia
  subst e;show .inl ⟨⟨b,j,rfl⟩,r a H p⟩
def ky{a:List Int}{us:List Value}{i:Nat}(r:aQ (a.map V.int) us)(h:us[i]? =some v):∃t,v=.int (a.getD i 0) t:=by let b:=r.length;rw[M0]at b;let f:=(NC.mp h).1;let⟨u,d,c⟩:=r.get (i:=i) (x:=.int (a[i]'(00))) (by simp[show i<a.length by lia]);rw[d]at h;ext h;let⟨t,e⟩:=c;show⟨t,?_⟩;rw[e];simp[List.getD,show i<a.length by lia]
theorem gG(a:List Int):∀k,k<=a.length->preSum (λi=>a.getD i 0) k=(a.take k).sum
 |0,_=>by simp[preSum]|k+1,h=>by
  let e:a.take (k+1)=a.take k++[a[k]'(00)]:=by simp[show k<a.length by lia]
  rw[preSum,gG a k 00,e,List.sum_append];simp[List.getD,show k<a.length by lia]
def na(hc:X.calm=true):bQ X (.builtin "sum") (λxs H Q=>∃(p:Addr)(ns:List Int),xs=[.ref p]/\bG X.K H p (ns.map V.int)/\Q (.int ns.sum) H):=by
 intro pins s σ H xs us Q I r h;let⟨p,ns,rfl,hq,q⟩:=h;let⟨u,rfl,rx⟩:=vals1 r;ext rx;let⟨its,r',pl,hz⟩:=I.list hq;let hlen:=r'.length;rw[M0]at hlen;let hp:p<s.heap.objs.size:=by let⟨o,e,_⟩:=pl.isList;show NQ e
 show call_sum_walkAnyS (QY pl.isList ?_);show⟨s.heap.objs.size,_,_,_,its.toArray.size,_,_,(λi=>ns.getD i 0),rfl,(Walks.list (A:=X.A.in1) (I.ok.hd hc) s.heap.objs.size p (Na hp) its.toArray).toS,⟨⟨_,NR _ rfl,rfl,rfl⟩,pl.isList.push _⟩,?_,?_,?_⟩
 ·intro b hb
  simp at hb
  rcases hb with rfl|rfl
  ·rw[size_push'];show Nat.lt_succ_self _
  ·rw[size_push'];show OG hp
 ·intro i v hv
  show ky r' (by simpa using hv)
 ·intro s' t' hm
  obtain⟨m1,m2,m3,m4,m5⟩:=hm;let e:s' ={s with heap:=s'.heap,toks:=s'.toks}:=by ext s';subst m2 m3 m4;rfl
  rw[e];exists .int ns.sum,H,I.kept (λb o z=>m1 b o (by simpa using Na (NQ z)) (M3 _ z)),⟨t',?_⟩,q;rw[NM,<-hlen,gG ns _ (NB _),N7]
theorem fK:∀{us:List Value}{a:List Int},IntsAre us a->aQ (a.map V.int) us
 |_,_,.nil=>.nil|_,_,.cons n t r=>.cons ⟨t,rfl⟩ (fK r)
def sortI(c:List Int):List Int:=c.mergeSort (λa b=>decide (a<=b))
theorem sortI_perm(a:List Int):(sortI a).Perm a:=List.mergeSort_perm _ _
def jW(d:List Int):(sortI d).Pairwise (·<=·):=by have:=List.pairwise_mergeSort (le:=λa b:Int=>decide (a<=b)) (λa b c h1 h2=>by simp at *;lia) (λa b=>000) d;show this.imp λh=>by simpa using h
theorem jV(h:c.Perm a)(s:c.Pairwise (·<=·)):c=sortI a := List.Perm.eq_of_pairwise (λa b _ _ h1 h2=>Int.le_antisymm h1 h2) s (jW a) (h.trans (sortI_perm a).symm)
def kh:bQ X (.builtin "sorted") (λxs H Q=>∃(p:Addr)(ns:List Int),xs=[.ref p]/\bG X.K H p (ns.map V.int)/\ns.length<64/\∀a,H a=none->Q (.ref a) (upd H a (.lst ((sortI ns).map V.int)))):=by intro pins s σ H xs us Q I r h;let⟨p,ns,rfl,hq,h64,q⟩:=h;let⟨u,rfl,rx⟩:=vals1 r;ext rx;let⟨its,r',pl,hz⟩:=I.list hq;let hlen:=r'.length;rw[M0]at hlen;show sorted_ints pl.isList (intsAre_of r') 00 λout ns' a1 a2 a3=> ?_;let e:=jV a2 a3;subst e;let⟨c,hc⟩:=sortedAll_at s.heap its out;exists .ref (s.heap.objs.size+1),_,I.laid (λb o z=>sortedAll_old z) (PY _) ?_,rfl,q _ (I.hok.fresh (PY _));show⟨?_,out.toList,c,fK a1,by simpa [seqObj]using hc⟩;rw[M0,(sortI_perm ns).length_eq];have:=N4;lia
theorem vt{P:Program}{w:World}{K:W.Frag}{a e c:Addr}(f:e≠c)(g:a≠c)(q:a≠e):x9 P w K (λH xs=>bG K H a xs) e c (λi h=>h.IsListIter c a i) where
 ne:=f
 obj:=λi h st=>by let⟨o,m,_,d⟩:=st;exists o,m,λv z=>by rw[d]at z;ext z
 keep:=λi h h' st k=>st.at k
 inj:=λX pins s σ H xs ys hK I f g=>by subst hK;show I.list_inj f g
 draws:=λX pins s σ H xs i hP hw hK hc I hs ht=>by
  subst hP hw hK;let⟨b,r,p,_⟩:=I.list hs;let D:=Draws.list (prog:=X.prog) (w:=X.w) (A:=X.A.in1) (I.ok.hd hc) c a g b.toArray;rw[NM,<-r.length]at D;exists _,_,_,D,by simp[f,q.symm],⟨ht,p.isList⟩,λj v x hv hx=> ?_,λj h st=>st.1;let⟨u,y,n⟩:=r.get hx;let e:b[j]? =some v:=by simpa using hv
  rw[y]at e;ext e;show n
def JC(K:W.Frag)(c:TA):TI:=λσ H R=>c σ H λvs H1=>∃a b,vs=[.ref a]/\bG K H1 a b/\R (KL λH b=>bG K H a b) H1
def su(w:Gl X "enumerate")(A:X.mg "enumerate"=none)(C:PA X [a] j)(n:starEach [a] X.env=[(false,eval a X.env)]:=by rfl) :
  PI X (.Tuple v E d) (.Call (.Name "enumerate" p) [a] [] pos) (JC X.K j):=by
 intro b s f H R I h;show Call_ (fP I w A boot_enumerate (ON (ar (C pos b s f H _ I h) λus s1 ⟨vs,H1,I1,r1,q1⟩=> ?_) n rfl));let⟨l,J,e,D,q⟩:=q1;subst e;let⟨u,rfl,y⟩:=vals1 r1;ext y;let⟨z,r,g,_⟩:=I1.list D;let i:l<s1.heap.objs.size:=by let⟨o,e,_⟩:=g.isList;show NQ e
 show call_enumerate_list g.isList λh' he hit hl hk=> ?_;show QZ he ?_;exists s1.heap.objs.size+1,[s1.heap.objs.size+1,s1.heap.objs.size],_,_,H1,rfl,I1.kept (t' :=s1.toks) hk,kO (vt (Nat.succ_ne_self _) (Na i) (Na (OG i))),⟨⟨_,he⟩,hit⟩,λc hc=> ?_,q;let m:s1.heap.objs.size<=c:=by
  simp only[NH,Nk,Oa]at hc
  rcases hc with rfl|rfl<;>lia
 show I1.fpOk m (I1.hok.fresh m)
def DX(i j:Int):Prop:=i.natAbs<2^2000/\j.natAbs<2^2000
def intBits_le{k:Int}(h:k.natAbs<2^2000):Builtin.Int.intBits k<=2000:=by
 unfold Builtin.Int.intBits
 split;show No _
 ·have:k.natAbs.log2<2000:=by
   rcases Nat.eq_zero_or_pos k.natAbs with a|b
   ·rw[a];decide
   ·show(Nat.log2_lt (Oi b)).mpr h
  lia
def DX.ok(h:DX i j):IntMulOk i j:=by
 unfold IntMulOk;let h1:=intBits_le h.1;let h2:=intBits_le h.2;let h3:Builtin.Int.intTooBig (Builtin.Int.intBits i+Builtin.Int.intBits j)=false:=by
  have:((4000:Nat):Int)<=bitsLine:=by decide
  show Nu 00
 rw[h3];simp
theorem Ee:fH X (binaryOp .Mult) (rI DX λi j=>.int (i*j)):=opI λ_ _ _ _ _ _ _ hc q=>mul_int q hc.ok
def v9:bQ X (.builtin "len") (λxs H Q=>∃a kvs,xs=[V.ref a]/\Rd H a (.dK kvs)/\Q (.int kvs.length) H):=by intro pins s σ H xs us Q I r h;let⟨a,kvs,rfl,ha,q⟩:=h;let⟨u,rfl,ru⟩:=vals1 r;ext ru;show Lr I ha λt s' I' =>⟨.int kvs.length,H,I',⟨t,rfl⟩,q⟩
def lA:bQ X (.type "dict") (λxs H Q=>∃a kvs,xs=[V.ref a]/\Rd H a (.dK kvs)/\∀p,H p=none->Q (.ref p) (upd H p (.dK kvs))):=by intro pins s σ H xs us Q I r h;let⟨a,kvs,rfl,ha,q⟩:=h;let⟨u,rfl,ru⟩:=vals1 r;ext ru;show Cr I ha λp s' hp I' =>⟨.ref p,_,I',rfl,q p hp⟩
def nF(v d:Addr):HO:=.ext λh=>h.IsValuesView v d
def oW:GB X "dict.values" (λx c H Q=>∃a b,x=.ref a/\c=[]/\H a=some (.dK b)/\∀p,H p=none->Q (.ref p) (upd H p (nF p a))):=by intro d s n H x y v us Q I j l h;let⟨a,b,rfl,rfl,m,q⟩:=h;ext j;ext l;show X_03 (λz g=>X_12 λc i f=> ?_) (mi I.hok m);show call_meetsIn QV f.typeIs PySem.F.entry_dict_values (PySem.F.args_dict_values_1 _) (meets_dict_values (aZ X.prog X.w) a g) ⟨⟨c,f⟩,?_⟩;exists .ref s.heap.objs.size,_,I.laid (λb u e=>M3 _ e) (NB _) ?_,rfl,q _ (I.hok.fresh (NB _));show⟨⟨_,NR _ rfl,rfl,rfl⟩,⟨_,NR _ rfl⟩,λh1 h2 p k=> ?_⟩;let⟨o,e,r⟩:=p;exists o,k o e,r
def tW{b:List (af×V)}{d:List Int}(r:KV b c)(e:b.map (·.2)=d.map V.int){i:Nat}{k:af}(h:c[i]? =some (k,v)):∃t,v=.int (d.getD i 0) t:=by
 let u:=r.length;let x:=(NC.mp h).1;let w:d.length=b.length:=by have:=N6 List.length e;simpa using this.symm
 let f:∀{b:List (af×V)}{c:List (af×Value)}{i:Nat}{q:af×Value},KV b c->c[i]? =some q->∃p,b[i]? =some p/\RelV p.2 q.2:=by
  intro b c i q r
  induction r generalizing i with
  |nil=>intro e;simp at e|cons a t l =>
   intro e;cases i with
   |zero=>simp at e;subst e;exists _,03,a.2|succ i=>simpa using l (by simpa using e)
 let⟨p,n,g⟩:=f r h;let j:(b.map (·.2))[i]? =(d.map V.int)[i]? :=by rw[e]
 rw[NG,NG,n,M5 00]at j;let m:p.2=V.int (d[i]'(00)):=by simpa using j
 rw[m]at g;let⟨t,s⟩:=g;show⟨t,?_⟩;let o:v=.int (d[i]'(00)) t:=s;rw[o];simp[List.getD,show i<d.length by lia]
def nZ(hc:X.calm=true):bQ X (.builtin "sum") (λxs H Q=>∃(p a:Addr)(kvs:List (af×V))(ns:List Int),xs=[.ref p]/\H p=some (nF p a)/\H a=some (.dK kvs)/\kvs.map (·.2)=ns.map V.int/\Q (.int ns.sum) H):=by
 intro pins s σ H xs us Q I r h;show X_41 (λp a kvs ns=>X_05 λR4 hp ha en q=> ?_) h;subst R4;let⟨u,rfl,rx⟩:=vals1 r;ext rx;show X_03 (λz hd=>X_12 λvs rel dd=> ?_) (mi I.hok ha);let⟨ep,da⟩:=dd.dictAt;let⟨hv,_⟩:=(show aw X.prog X.w H s.heap p (nF p a)from I.hok p _ hp);let hn:ns.length=kvs.length:=by have:=N6 List.length en;simpa using this.symm
 let lt:=da.lt_size;show call_sum_walkAnyS (wpAny_pyIter_values hv da ?_);show⟨s.heap.objs.size,_,_,_,vs.length,_,_,(λi=>ns.getD i 0),rfl,(Walks.dictValues (A:=X.A.in1) (I.ok.hd hc) s.heap.objs.size a (Na lt) vs ep).toS,⟨⟨_,NR _ rfl,rfl,rfl⟩,da.push _⟩,?_,?_,?_⟩
 ·intro b hb
  simp at hb
  rcases hb with rfl|rfl
  ·rw[size_push'];show Nat.lt_succ_self _
  ·rw[size_push'];show OG lt
 ·intro i v zm;let⟨k,hv⟩:=zm
  show tW rel en hv
 ·intro s' t' hm
  obtain⟨m1,m2,m3,m4,m5⟩:=hm;let e:s' ={s with heap:=s'.heap,toks:=s'.toks}:=by ext s';subst m2 m3 m4;rfl
  rw[e];exists .int ns.sum,H,I.kept (λb o z=>m1 b o (by simpa using Na (NQ z)) (M3 _ z)),⟨t',?_⟩,q;rw[<- rel.length,<-hn,gG ns _ (NB _),N7]
def Inv.known{s:Shared}{o:Obj}(I:Inv X f l H s)(d:H a=some (.dK g))(v:s.heap.get? a=some o):Inv X f l (upd H a (.frz o (.dK g))) s:=by
 let i:∀b h,H b=some (.tup h)->upd H a (.frz o (.dK g)) b=some (.tup h):=λb h e=>by rwa[aA (λz=>by subst z;rw[d]at e;ext e)]
 show⟨I.ok,I.os,I.bare,⟨I.base.keep,I.base.slot,λb ob e n hx=> ?_,I.base.there,λb h e=>i b h (I.base.tups b h e),λb ob u e=> ?_,λb ps e=> ?_⟩,I.loc,I.cell,?_,λx c e=> ?_,λp hp=> ?_,λb u e=> ?_,I.len⟩
 ·have:=I.base.free b ob e n hx
  rwa[aA (λz=>by subst z;rw[d]at this;ext this)]
 ·have:=I.base.frzs b ob u e
  rwa[aA (λz=>by subst z;rw[d]at this;ext this)]
 ·let⟨m,e⟩:=I.base.tbls b ps e
  show⟨m,by rwa[aA (λz=>by subst z;rw[d]at e;ext e)]⟩
 ·rw[aA (λz=>by have:=I.free;rw[z,d]at this;ext this)]
  show I.free
 ·have:=I.freeC x c e
  rwa[aA (λz=>by rw[z,d]at this;ext this)]
 ·let⟨w,j,y⟩:=I.pin p hp
  show⟨w,by rwa[aA (λz=>by rw[z,d]at j;ext j)],y⟩
 ·by_cases r:b=a
  ·subst r
   rw[aB]at e;ext e;show⟨v,?_⟩;show(I.hok b _ d).stay (λ_ _ _ q=>q) (λc q=>by rwa[aA (λz=>by subst z;rw[d]at q;ext q)]) i
  ·rw[aA r]at e
   show(I.hok b u e).stay (λ_ _ _ q=>q) (λc q=>by rwa[aA (λz=>by subst z;rw[d]at q;ext q)]) i
def NF(X:Cx)(a:Addr):Prop:=∀o u,X.H₀ a≠some (.frz o u)
theorem Inv.nf{s:Shared}(I:Inv X b d H s)(f:H a=some (.dK c)):NF X a:=λo u e=>by have:=I.base.frzs a o u e;rw[f]at this;ext this
def Inv.unknown{s:Shared}{o:Obj}(I:Inv X f l H s)(v:NF X a)(d:H a=some (.frz o (.dK g))):Inv X f l (upd H a (.dK g)) s:=by
 let i:∀b h,H b=some (.tup h)->upd H a (.dK g) b=some (.tup h):=λb h e=>by rwa[aA (λz=>by subst z;rw[d]at e;ext e)]
 show⟨I.ok,I.os,I.bare,⟨I.base.keep,I.base.slot,λb ob e n hx=> ?_,I.base.there,λb h e=>i b h (I.base.tups b h e),λb ob u e=> ?_,λb ps e=> ?_⟩,I.loc,I.cell,?_,λx c e=> ?_,λp hp=> ?_,λb u e=> ?_,I.len⟩
 ·have:=I.base.free b ob e n hx
  rwa[aA (λz=>by subst z;rw[d]at this;ext this)]
 ·have:=I.base.frzs b ob u e
  rwa[aA (λz=>by subst z;show v _ _ e)]
 ·let⟨m,e⟩:=I.base.tbls b ps e
  show⟨m,by rwa[aA (λz=>by subst z;rw[d]at e;ext e)]⟩
 ·rw[aA (λz=>by have:=I.free;rw[z,d]at this;ext this)]
  show I.free
 ·have:=I.freeC x c e
  rwa[aA (λz=>by rw[z,d]at this;ext this)]
 ·let⟨w,j,y⟩:=I.pin p hp
  show⟨w,by rwa[aA (λz=>by rw[z,d]at j;ext j)],y⟩
 ·by_cases r:b=a
  ·subst r
   rw[aB]at e;ext e;show(I.hok b _ d).2.stay (λ_ _ _ q=>q) (λc q=>by rwa[aA (λz=>by subst z;rw[d]at q;ext q)]) i
  ·rw[aA r]at e
   show(I.hok b u e).stay (λ_ _ _ q=>q) (λc q=>by rwa[aA (λz=>by subst z;rw[d]at q;ext q)]) i
def Mv(a:Addr)(o:Obj)(b:List (af×V)):It :=
 ⟨λi H=>H a=some (.frz o (.dK b))/\i<b.length,λi H v H' =>∃p,H p=none/\v=.ref p/\∀k x,b[i]? =some (k,x)->H' =upd H p (.tup [kV k,x]),λi H=>H a=some (.frz o (.dK b))/\i=b.length⟩
def CM{k:af}{P:Program}(h:(aZ P w).is k v=true):RelV (kV k) v:=by
 cases k with
 |inl i =>let⟨t,e⟩:=Value.isInt_shape h;show⟨t,e⟩
 |inr z =>let⟨t,e⟩:=Value.isStrOf_shape h;show⟨t,e⟩
theorem iB:entryFor table "dict_itemiterator.__iter__"=some Builtin.«dict_keyiterator.__iter__» := entryFor_alias (id' :="dict_keyiterator.__iter__") 04 rfl 01 04
open J in
def u7{P:Program}{w:World}{K:W.Frag}{es:List Expr}{kt:Nat}{M:Pos}{a j:Addr}{o:Obj}{d:List (af×V)}{g:List (af×Value)}{N:Nat}{h0:Heap}(a2:a≠j)(u:KV d g)(J:h0.DictAt (aZ P w) a g N)(ho:h0.get? a=some o) :
  uh P w K (.Tuple es kt M) (Mv a o d) [j] j (λi h=>∃A C,IsItemIter h j a i g.length N A C) where
 mem:=by simp
 obj:=λi h m b hb=>by
  let e:b=j:=by simpa using hb
  subst e;let⟨A,C,e⟩:=m;exists _,e,λv z=>by ext z
 keep:=λi h h' m k=>by let⟨A,C,e⟩:=m;exists A,C,k j 03 _ e
 item:=by
  intro X Z R S hc i n s σ H E I O m T;let⟨D,a1⟩:=T;let⟨A,C,p⟩:=m;let Y:=(I.hok a _ D).1;let f :=J.at' λo' e=>by rw[ho]at e;ext e;show Y
  obtain⟨⟨k,x⟩,hx⟩:∃q,d[i]? =some q:=⟨d[i],by simp[a1]⟩;let U:∀{d:List (af×V)}{g:List (af×Value)}{i:Nat}{q:af×V},KV d g->d[i]? =some q->∃v,g[i]? =some (q.1,v)/\RelV q.2 v:=by
   intro d g i q r
   induction r generalizing i with
   |nil=>intro e;simp at e|cons a t ih =>
    intro e;cases i with
    |zero =>simp at e;subst e;rename_i c _ _;exists c.2,by simp[a.1],a.2
    |succ i=>simpa using ih (by simpa using e)
  let⟨v,hv,rv⟩:=U u hx;let L:=NQ p;show wpAny_pyNext_items_item p f hv λkv h' hkey hout hT hsz hk=> ?_;exists _,rfl,wpAny_letOwnedTupleGo_items hout λh'' he' hs' => ?_;let kk:∀c o,c∉[j]->s.heap.get? c=some o->h''.get? c=some o:=λc o hc' y=>by
   let l:c≠j:=by simpa using hc'
   show(hs'.2 c l).trans (hk c o l y)
  let I1:Inv X n σ (upd H s.heap.objs.size (.tup [kV k,x])) {s with heap:=h''} :=
   I.drew O kk (NB _) ⟨by change 2<=sizeLine;decide,[kv,v],.cons (CM hkey) (.cons rv .nil),⟨_,(hs'.2 _ (Oi L)).trans hT,rfl,_,rfl,rfl⟩⟩
  exists .ref s.heap.objs.size,_,I1,rfl,⟨s.heap.objs.size,I.hok.fresh (NB _),rfl,λk' x' hx' => ?_⟩,Y_21 _ _ he',λc hc' => ?_
  ·rw[hx]at hx'
   ext hx';rfl
  ·let l:c=j:=by simpa using hc'
   subst l;rw[aA (Na L)];show(O c 03).1
 done:=by
  intro X Z R S hc i n s σ H E I O m T;let⟨D,rfl⟩:=T;let⟨A,C,p⟩:=m;let f :=J.at' λo' e=>by rw[ho]at e;ext e;show (I.hok a _ D).1
  show wpAny_pyNext_items_end (I.ok.hd hc) p f (by rw[u.length];simp) λh' hk=>⟨rfl,I.drew0 O λc o hc' y=>hk c o (by simpa using hc') y⟩
 self:=λA i s Q E m h=>by let⟨A,C,p⟩:=m;show wpAny_pyIter_slot ⟨_,p,rfl⟩ PySem.F.slot_dict_itemiterator_iter (Ob PySem.F.slot_dict_itemiterator_iter ⟨_,p,rfl⟩ iB ?_ (PySem.F.args_dict_itemiterator_iter_1 _));show NK (Y_12 _ rfl (Y_23 ("dict_itemiterator") _ ⟨_,p,rfl⟩ PySem.F.slot_dict_itemiterator_next.lookup h))
def Iz(X:Cx)(c:TE):TI:=λσ H R=>c σ H λx H1=>∃a b,x=.ref a/\H1 a=some (.dK b)/\∀o,NF X a->R (Mv a o b) (upd H1 a (.frz o (.dK b)))
def tM{m:Pos}{o:Expr}(Y:PE X o M)(j:attributeBase o "items" X.env (eval o X.env)=eval o X.env:=by rfl)(i:(g.endLine==f.line)=true:=by rfl) :
  PI X (.Tuple T kt m) (.Call (.Attribute o "items" g) [] [] f) (Iz X M):=by
 intro d s K H R I h;show wpAny_Call_method0_late j i (ar (Y d s K H _ I h) λv s1 hpq=> ?_);show X_23 (λx S D U=>X_23 λa O R6 E q=> ?_) hpq;subst R6;ext U;show X_03 (λz Q=>X_12 λy r p=> ?_) (mi D.hok E);let⟨L,A⟩:=p.dictAt;let⟨n,a0,b,v,_⟩:=id A;exists "dict","dict.items",Pp,PySem.F.slot_dict_items,PySem.F.type_dict_items,p.typeIs,λb e=> ?_,QD rfl (PySem.evalArgs_none ?_)
 ·ext e
  exists n,b,v.2.1
 show call_meetsIn PySem.F.slot_dict_items p.typeIs PySem.F.entry_dict_items (PySem.F.args_dict_items_1 _) (meets_dict_items (aZ X.prog X.w) a Q) ⟨⟨y,p⟩,?_⟩;let C:Inv X d K S {s1 with heap:=s1.heap.push {cls:=.type "dict_items",data:=.fields #[.ref a]}}:=D.kept λb u e=>M3 _ e;show wpAny_pyIter_items ⟨_,NR _ rfl,rfl,rfl⟩ (A.push {cls:=.type "dict_items",data:=.fields #[.ref a]}) ?_;let N:=NQ b;let W:=C.kept (t' :=s1.toks) (h' :=(s1.heap.push {cls:=.type "dict_items",data:=.fields #[.ref a]}).push {cls:=.type "dict_itemiterator",data:=.fields #[.none,.bool false,.ref a,.int 0 0,.int y.length 0,.int L 0,.none,.none]}) λb u e=>M3 _ e;let l:((s1.heap.push {cls:=.type "dict_items",data:=.fields #[.ref a]}).push {cls:=.type "dict_itemiterator",data:=.fields #[.none,.bool false,.ref a,.int 0 0,.int y.length 0,.int L 0,.none,.none]}).get? a=some n:=M3 _ (M3 _ b);exists (s1.heap.push {cls:=.type "dict_items",data:=.fields #[.ref a]}).objs.size,[(s1.heap.push {cls:=.type "dict_items",data:=.fields #[.ref a]}).objs.size],_,_,_,rfl,W.known E l,u7 (Na (by rw[size_push'];show OG N)) r A b,Y_21 _ _ (NR _ rfl),λc hc=> ?_,q n (D.nf E);let e:c=(s1.heap.push {cls:=.type "dict_items",data:=.fields #[.ref a]}).objs.size:=by simpa using hc
 subst e;show(C.fpOk (NB _) ?_);rw[aA (Oi (by rw[size_push'];show OG N))];show C.hok.fresh (NB _)
def thaw(X:Cx)(D:dX):dX where
 nx:=λσ H=>∃a o b,H a=some (.frz o (.dK b))/\NF X a/\D.nx σ (upd H a (.dK b))
 bk:=λσ H=>∃a o b,H a=some (.frz o (.dK b))/\NF X a/\D.bk σ (upd H a (.dK b))
 ct:=λσ H=>∃a o b,H a=some (.frz o (.dK b))/\NF X a/\D.ct σ (upd H a (.dK b))
 rt:=λv H=>∃a o b,H a=some (.frz o (.dK b))/\NF X a/\D.rt v (upd H a (.dK b))
def pk{m:Stmt}{t:TS}(h:PS X m t):PS X m (λD j H=>t (thaw X D) j H):=by
 intro i s j H D I p;show ar (h i s j H _ I p) λf s1 q=> ?_;cases f with
 |next =>show X_22 (λb l e=>X_33 λa o c g d q=> ?_) q;exists b,_,e.unknown d g,q
 |brk =>show X_22 (λb l e=>X_33 λa o c g d q=> ?_) q;exists b,_,e.unknown d g,q
 |cont =>show X_22 (λb l e=>X_33 λa o c g d q=> ?_) q;exists b,_,e.unknown d g,q
 |ret v =>show X_33 (λb x l e n=>X_33 λa o c g d q=> ?_) q;exists b,x,_,e.unknown d g,n,q
def zM{a:Addr}{o:Obj}{b:List (af×V)}{g:TG}{r:TS}{D:dX}{c:St}{H:Hp}(d:Nat->St->Hp->Prop)(C:d 0 c H)(A:∀i c H,i<=b.length->d i c H->H a=some (.frz o (.dK b)))
  (s:∀i k x p c H,b[i]? =some (k,x)->H p=none->d i c H->g (.ref p) c (upd H p (.tup [kV k,x])) λσ2 H2=>r {D with nx:=d (i+1),ct:=d (i+1),bk:=D.nx} σ2 H2) (u:∀c H,d b.length c H->D.nx c H) :
  ∃W:Nat->Nat->St->Hp->Prop,(∃m,W 0 m c H)/\∀i m c H,W i m c H -> ((Mv a o b).stop i H/\D.nx c H)\/((Mv a o b).go i H/\∃N:St->Hp->Prop,(∀j f,N j f ->∃n,n <m/\W (i+1) n j f)/\∀x f,(Mv a o b).yld i H x f ->g x c f λσ2 H2=>r {D with nx:=N,ct:=N,bk:=D.nx} σ2 H2):=by
 exists λi m c H=>m=b.length-i/\i<=b.length/\d i c H,Y_13 b.length 03 (No _) C,?_;intro i m c H zm;let⟨rfl,z,p⟩:=zm;let l:=A i c H z p
 by_cases h:i<b.length
 ·let q:b[i]? =some b[i]:=by simp[h]
  show .inr ⟨⟨l,h⟩,Y_12 (d (i+1)) (λσ' f p' =>⟨b.length-(i+1),00,rfl,h,p'⟩) (λx f y=> ?_)⟩;obtain⟨w,v,rfl,y⟩:=y;let e:=y b[i].1 b[i].2 q;subst e;show s i _ _ w c H q v p
 ·let e:i=b.length:=by lia
  subst e;show .inl ⟨⟨l,rfl⟩,u c H p⟩
end
namespace RV
end RV
end L2
namespace L2
open PySem PySem.Spec PyProof.Rows
namespace RV
section
variable{prog:Program}{w:World}{A:Around}{E:Value->Shared->Prop}{s:Shared}{x:Str}{t:Tok}{a:Addr}
end
end RV
end L2
namespace L2
open PySem PySem.Spec PyProof.Rows
namespace RV
end RV
end L2
namespace L2
open PySem PySem.Spec PyProof.Rows
namespace RV
open Builtin Builtin.Str Builtin.Int
end RV
end L2
namespace L2
open PySem PySem.Spec PyProof.Rows
section
variable{X:Cx}
def Mu(a:Addr)(o:Obj)(b:List (af×V)):It :=
 ⟨λi H=>H a=some (.frz o (.dK b))/\i<b.length,λi H v H' =>H' =H/\∀k x,b[i]? =some (k,x)->v=kV k,λi H=>H a=some (.frz o (.dK b))/\i=b.length⟩
open H
def G8{P:Program}{w:World}{K:W.Frag}{tg:Expr}{a p:Addr}{o:Obj}{c:List (af×V)}{g:List (af×Value)}{y:Nat}{h0:Heap}(m:KV c g)(u:h0.DictAt (aZ P w) a g y)(ho:h0.get? a=some o) :
  uh P w K tg (Mu a o c) [p] p (λi h=>h.IsKeyIter p a i g.length y) where
 mem:=by simp
 obj:=λi h j b hb=>by
  let e:b=p:=by simpa using hb
  subst e;let⟨Z,e,_,d⟩:=j;exists Z,e,λv z=>by rw[d]at z;ext z
 keep:=λi h h' j k=>j.at λo e=>k p 03 o e
 item:=by
  intro X R C D Y i l s T H E I A j M;let⟨n,x⟩:=M;let f :=u.at' λo' e=>by rw[ho]at e;ext e;show(I.hok a _ n).1
  let N:∀{c:List (af×V)}{g:List (af×Value)}{i:Nat}{q:af×V},KV c g->c[i]? =some q->∃v,g[i]? =some (q.1,v):=by
   intro c g i q r
   induction r generalizing i with
   |nil=>intro e;simp at e|cons a t ih =>
    intro e;cases i with
    |zero =>simp at e;subst e;show⟨_,by rw[a.1];rfl⟩
    |succ i=>simpa using ih (by simpa using e)
  let⟨v,hv⟩:=N m (M5 x);let⟨S,L,f2,O,Q,J⟩:=A p 03;show wpAny_pyNext_dict_item j f hv λkv h' hk st' sb=> ?_;let⟨Z,e',c',d'⟩:=id st';exists _,rfl,uA e' c' d' 02 (Y_25 _ H (I.turned (t' :=s.toks) (λb o hb e=>(sb.2 b hb).trans e) S L O Q J) (CM hk) ⟨rfl,λk' x' hx' => ?_⟩ st' (λb hb=>(A b hb).1));rw[M5 x]at hx';rw[Nf hx']
 done:=by
  intro X R C D Y i l s T H E I A j M;let⟨n,rfl⟩:=M;let f :=u.at' λo' e=>by rw[ho]at e;ext e;show(I.hok a _ n).1
  let⟨S,L,f2,O,Q,J⟩:=A p 03;show wpAny_pyNext_dict_end (I.ok.hd Y) j f (by rw[m.length];simp) λh' eb=>⟨rfl,I.turned (λb o hb e=>eb b o hb e) S L O Q J⟩
 self:=λ_ _ _ _ _ j h=>wpAny_pyIter_keyiter j h
def Iy(X:Cx)(c:TE):TI:=λσ H R=>c σ H λx H1=>∃a b,x=.ref a/\H1 a=some (.dK b)/\∀o,NF X a->R (Mu a o b) (upd H1 a (.frz o (.dK b)))
def sr{m:TE}(p:PE X l m):PI X r l (Iy X m):=by
 intro c s n H R I h;show ar (p c s n H _ I h) λv s1 hpq=> ?_;show X_23 (λx K d y=>X_23 λa u R6 j q=> ?_) hpq;subst R6;ext y;show X_03 (λz v=>X_12 λw f C=> ?_) (mi d.hok j);let⟨D,g⟩:=C.dictAt;let⟨o,L,i,_⟩:=id g;show wpAny_pyIter_dict v g ?_;let A:=(d.kept (t' :=s1.toks) (h' :=s1.heap.push ⟨.type "dict_keyiterator",none,.fields #[.ref a,.int 0 0,.int w.length 0,.int D 0],#[]⟩) λb o e=>M3 _ e).known j (M3 _ i);exists s1.heap.objs.size,[s1.heap.objs.size],_,_,_,rfl,A,G8 f g i,⟨_,NR _ rfl,rfl,rfl⟩,λb hb=> ?_,q o (d.nf j);let e:b=s1.heap.objs.size:=by simpa using hb
 subst e;show d.fpOk (NB _) ?_;rw[aA (Oi (NQ i))];show d.hok.fresh (NB _)
def ou{a:Addr}{o:Obj}{b:List (af×V)}{g:TG}{r:TS}{D:dX}{c:St}{H:Hp}(d:Nat->St->Hp->Prop)(z:d 0 c H)(w:∀i c H,i<=b.length->d i c H->H a=some (.frz o (.dK b)))
  (s:∀i k x c H,b[i]? =some (k,x)->d i c H->g (kV k) c H λσ2 H2=>r {D with nx:=d (i+1),ct:=d (i+1),bk:=D.nx} σ2 H2) (u:∀c H,d b.length c H->D.nx c H) :
  ∃W:Nat->Nat->St->Hp->Prop,(∃m,W 0 m c H)/\∀i m c H,W i m c H -> ((Mu a o b).stop i H/\D.nx c H)\/((Mu a o b).go i H/\∃N:St->Hp->Prop,(∀j f,N j f ->∃n,n <m/\W (i+1) n j f)/\∀x f,(Mu a o b).yld i H x f ->g x c f λσ2 H2=>r {D with nx:=N,ct:=N,bk:=D.nx} σ2 H2):=by
 exists λi m c H=>m=b.length-i/\i<=b.length/\d i c H,Y_13 b.length 03 (No _) z,?_;intro i m c H zm;let⟨rfl,v,p⟩:=zm;let l:=w i c H v p
 by_cases h:i<b.length
 ·let q:b[i]? =some b[i]:=by simp[h]
  show .inr ⟨⟨l,h⟩,Y_12 (d (i+1)) (λσ' f p' =>⟨b.length-(i+1),00,rfl,h,p'⟩) (λx f y=> ?_)⟩;obtain⟨rfl,y⟩:=y;rw[y _ _ q];show s i _ _ c _ q p
 ·let e:i=b.length:=by lia
  subst e;show .inl ⟨⟨l,rfl⟩,u c H p⟩
def zd:bQ X (.type "int") (λxs H Q=>∃(z:Str)(i:Int),xs=[.str z]/\intText? z=some i/\z.length<=640/\Q (.int i) H):=by intro pins s σ H xs us Q I r h;let⟨z,i,rfl,hi,hl,q⟩:=h;show X_12 (λu R1=>X_11 λt R3=> ?_) (vals1 r);subst R1 R3;show W.KIN.call_text hi hl ⟨.int i,H,I.tok _,⟨_,rfl⟩,q⟩
def CO{us:List Value}(r:aQ (b.map V.int) us):IntsAre us b:=by
 induction b generalizing us with
 |nil=>ext r;show .nil|cons n b c =>
  cases r with
  |cons a t =>let⟨k,rfl⟩:=a;show .cons n k (c t)
def ng(hc:X.calm=true):bQ X (.builtin "max") (λxs H Q=>∃(p:Addr)(ns:List Int)(m:Int),xs=[.ref p]/\bG X.K H p (ns.map V.int)/\ns.max? =some m/\Q (.int m) H):=by
 intro pins s σ H xs us Q I r h;let⟨p,ns,m,rfl,hq,hm,q⟩:=h;let⟨u,rfl,rx⟩:=vals1 r;ext rx;let⟨its,r',pl,hz⟩:=I.list hq;let hi:=CO r';let⟨m1,m2⟩:=List.max?_eq_some_iff.mp hm;let⟨xs,e⟩:=hi.allInts.items;let hns:ns=xs.toList.map (·.1):=by rw[<- hi.numsOf,<-nums_intItems,<-e]
 let hsz:0<xs.size:=by have:=List.length_pos_of_mem m1;rwa[hns,M0,Ng]at this
 let hl:=pl.isList;rw[e]at hl;show max_intList (I.ok.hd hc) hl hsz λv h' tk hv hk=> ?_;let⟨t,rfl⟩:=intItems_at hv;let⟨h1,h2⟩:=argBest_gt (numAt xs) (xs.size-1);let em:numAt xs (argBest (λi j=>decide (numAt xs i>numAt xs j)) (xs.size-1))=m:=by
  show Int.le_antisymm (m2 _ ?_) ?_
  ·rw[hns,numAt_eq]
   show getD_mem (by rw[M0,Ng];lia)
  ·rw[hns]at m1
   let⟨j,hj,rfl⟩:=mem_getD m1;rw[M0,Ng]at hj;rw[<- numAt_eq];show h2 j 00
 rw[em];exists .int m,H,I.kept λb o z=>hk b o z,⟨_,rfl⟩,q
def LD(K:W.Frag):V->List V->Hp->VK->Prop:=λx vs H Q=>∃(p:Addr)(y:Str)(a:List Str),x=.ref p/\vs=[.str y]/\bG K H p (a.map V.str)/\Q (.int (a.countP (·==y):Nat)) H
theorem mn{k:Str}:∀{b:List Value}{a:List Str},StrsAre b a->b.countP (isStrOf k)=a.countP (·==k)
 |_,_,.nil=>rfl|_,_,.cons n u h=>by rw[List.countP_cons,List.countP_cons,mn h];rfl
def y8:GB X "list.count" (LD X.K):=by intro f s z H x E v us Q I m o h;let⟨p,y,C,rfl,rfl,l,q⟩:=h;ext m;show X_12 (λu R1=>X_11 λt R3=> ?_) (vals1 o);subst R1 R3;obtain⟨a,r,⟨⟨cls,j,D,w⟩,n,g,d,e,c⟩,A⟩:=I.list l;subst d e c;let i:=d8 r;show Pi PySem.F.slot_list_count ⟨_,g,rfl⟩ PySem.F.entry_list_count (PySem.F.args_list_count_2 _ _) (SeqAt.list_countAt p a.toArray n none w (.str y t) (isStrOf y)) ⟨g,λb hb=>(eq_isStrOf y t i b (by simpa using hb)).at _ _,?_⟩;rw[show a.toArray.toList=a from rfl,mn i];exists .int _,H,I.tok _,⟨_,rfl⟩,q
def LA(K:W.Frag):V->List V->Hp->VK->Prop:=λx vs H Q=>∃(p:Addr)(y:Str)(a:List Str)(j:Nat),x=.ref p/\vs=[.str y]/\bG K H p (a.map V.str)/\a.findIdx? (·==y)=some j/\Q (.int (j:Nat)) H
theorem Al{k:Str}:∀{a:List Value}{b:List Str}{i:Nat}{v:Value},StrsAre a b->a[i]? =some v->∃z,b[i]? =some z/\isStrOf k v=(z==k)
 |_,_,0,_,.cons n u h,e=>(Y_12 n rfl (by ext e;rfl))|_,_,i+1,_,.cons (vs:=a) n u h,e=>Al (i:=i) h (by simpa using e)
def y4:GB X "list.index" (LA X.K):=by
 intro o s W H x Z v us Q I R S h;show X_41 (λp y A j=>X_05 λR4 R5 M O q=> ?_) h;subst R4 R5;ext R;show X_12 (λu R1=>X_11 λt R3=> ?_) (vals1 S);subst R1 R3;obtain⟨a,r,⟨⟨cls,L,Y,T⟩,n,C,i,l,g⟩,N⟩:=I.list M;subst i l g;let D:=d8 r;let J:=r.length;rw[M0]at J N;let⟨d,c,e⟩:=List.findIdx?_eq_some_iff_getElem.mp O;let w:∀m (f:m<A.length),isStrOf y (a.toArray[m]'(by rw[NM];lia))=(A[m]==y):=λm f=>by obtain⟨z,E,U⟩:=Al D (M5 (show m<a.length by lia));rw[M5 f]at E;ext E;show U
 show Pi PySem.F.slot_list_index ⟨_,C,rfl⟩ PySem.F.entry_list_index (PySem.F.args_list_index_2 _ _)
  (SeqAt.list_indexAt p a.toArray n none T (.str y t) (isStrOf y) j (by rw[NM];lia) (by have:sizeLine=16777216:=rfl;lia) ((w j d).trans c) λm f hlt=>(w m 00).trans (Oc.mpr (e m hlt))) ⟨C,λb hb=>(eq_isStrOf y t D b (by simpa using hb)).at _ _,?_⟩
 exists .int j,H,I.tok _,⟨_,rfl⟩,q
end
section
variable{X:Cx}
def Hh:V->List V->Hp->VK->Prop:=λx vs H Q=>∃z y,x=.str z/\vs=[.str y]/\Q (.int (Txt.count z y)) H
open H
def Bz:GB X "str.count" Hh:=by intro a s d H x f v us Q I b c h;let⟨z,y,rfl,rfl,q⟩:=h;let⟨t,rfl⟩:=b;show X_12 (λu R1=>X_11 λe R3=> ?_) (vals1 c);subst R1 R3;show SC.count ⟨.int (Txt.count z y),H,I.tok _,⟨_,rfl⟩,q⟩
end
open H
def yX(z:Str)(c i:Nat)(h:i<z.cps.size):Builtin.Str.subAt z ⟨#[c]⟩ i=(z.cps[i]==c):=by
 unfold Builtin.Str.subAt;let e:z.cps.extract i (i+(Str.length ⟨#[c]⟩))= #[z.cps[i]]:=by
  change z.cps.extract i (i+1)=_
  apply Array.ext;simp;lia
  ·intro j b a
   have:j=0:=by simpa using a
   subst this;simp
 rw[e];simp
theorem iX(z:Str)(c:Nat):∀(n i:Nat)(a:Array Nat×Nat),i+n=z.cps.size->a.snd<=i->a.fst.size<=i -> (forIn (List.range' i (n+1)) a (StrLaws.occBody z ⟨#[c]⟩ z.length (z.length+1))).run.fst.size=a.fst.size+((z.cps.toList.drop i).filter (·==c)).length
 |0,i,a,h,h1,h2=>by rw[show List.range' i (0+1)=[i]from rfl,List.forIn_cons];unfold StrLaws.occBody;rw[NJ (λq=>by have:=q.1.2;let e:Str.length ⟨#[c]⟩=1:=rfl;let g:z.length=z.cps.size:=rfl;lia)];rw[List.drop_of_length_le (by rw[Ng];lia)];rfl
 |n+1,i,a,h,h1,h2=>by
  let f:i<z.cps.size:=by lia
  rw[List.range'_succ,List.forIn_cons];unfold StrLaws.occBody;let j:z.cps.toList.drop i=z.cps[i]::z.cps.toList.drop (i+1):=by simp[Os,f]
  rw[j,Oo,yX z c i f];let l:Str.length ⟨#[c]⟩=1:=rfl;let g:z.length=z.cps.size:=rfl
  by_cases b:(z.cps[i]==c)=true
  ·rw[M9 ⟨⟨⟨00,h1⟩,00⟩,b⟩,M9 b]
   let d:=iX z c n (i+1) (a.fst.push i,i+Str.length ⟨#[c]⟩) 00 (by change i+1<=i+1;lia) (by change(a.fst.push i).size<=_;rw[Array.size_push];lia);change(forIn (List.range' (i+1) (n+1)) (a.fst.push i,i+Str.length ⟨#[c]⟩) (StrLaws.occBody z ⟨#[c]⟩ z.length (z.length+1))).run.fst.size=_;rw[d,Array.size_push,NW];lia
  ·rw[NJ (λq=>b q.2),NJ b]
   show iX z c n (i+1) (a.fst,a.snd) 00 (by change a.snd<=_;lia) (by change a.fst.size<=_;lia)
def mj(z:Str)(c:Nat):Txt.count z ⟨#[c]⟩=((z.cps.toList.filter (·==c)).length:Int):=by unfold Txt.count;rw[StrLaws.occ_eq];have:=iX z c z.cps.size 0 (#[],0) 00 (NB _) (NB _);rw[Ng,show z.length+1-0=z.cps.size+1 from rfl,this];simp
end L2
namespace SQ
open PySem
def lst(m:Nat):List Nat:=(List.range 8).filter λv=>m/2^v%2==1
def put(m v:Nat):Nat:=if m/2^v%2=1 then m else m+2^v
def iN(led:Bool)(m:Nat):SetTable:={mask:=if(lst m).length<5 then 7 else 31,place:=(lst m).toArray,dummies:= #[],finger:=0,led:=led,moves:=if(lst m).length<5 then 0 else 1,plain:=true}
def at_(m v:Nat):Nat:=((lst m).filter (·<v)).length
def d7(led:Bool)(m v:Nat):SetTable:={iN led m with place:=(lst (put m v)).toArray}
def tT(a b:SetTable):Bool:=a.mask==b.mask&&a.place.toList==b.place.toList&&a.dummies.toList==b.dummies.toList&&a.finger==b.finger&&a.led==b.led&&a.moves==b.moves&&a.plain==b.plain
open H
def jp(h:tT a b=true):a=b:=by obtain⟨o,⟨u⟩,⟨m⟩,x,y,p,n⟩:=a;obtain⟨b1,⟨w⟩,⟨r⟩,l,s,q,v⟩:=b;simp only[tT,M8,Og]at h;obtain⟨⟨⟨⟨⟨⟨d,j⟩,f⟩,e⟩,i⟩,c⟩,g⟩:=h;subst d j f e i c g;rfl
def qG(led:Bool)(m v:Nat):Bool :=
 if m/2^v%2==1 then true else
 (match(iN led m).freeSlot (v:Int)with
  |some (j,d)=>j==v&& !d|none=>false) &&
 tT ((iN led m).put v).1 (d7 led m v)&&((iN led m).put v).2==at_ m v&&lst (put m v)==(lst m).take (at_ m v)++v::(lst m).drop (at_ m v)&&(d7 led m v).fits (lst (put m v)).length &&
 (if(d7 led m v).tooFull then(match(d7 led m v).relaid ((lst (put m v)).map Int.ofNat).toArray (SetTable.grown (lst (put m v)).length)with
  |some (t,o)=>tT t (iN led (put m v))&&o.toList==List.range (lst (put m v)).length&&(iN led (put m v)).fits (lst (put m v)).length|none=>false)else tT (d7 led m v) (iN led (put m v)))
def CD:(List.range 256).all (λm=>(List.range 8).all λv=>qG true m v&&qG false m v&&decide (put m v<256))=true:=by decide +kernel
def Gx(m:Nat):Bool:=(List.range (lst m).length).all λi=>SetTable.below (lst m).toArray (if i=0 then 0 else(lst m).getD (i-1) 0+1)==i
def AM:(List.range 256).all (λm=>Gx m&&SetTable.below (lst m).toArray (if(lst m).length=0 then 0 else(lst m).getD ((lst m).length-1) 0+1)==(lst m).length)=true:=by decide +kernel
def Cd:(List.range 256).all (λm=>(iN true m).fits (lst m).length&&(iN false m).fits (lst m).length)=true:=by decide +kernel
def fits{m:Nat}(a:m<256)(led:Bool):(iN led m).fits (lst m).length=true:=by let h:=NV.mp Cd m (Nm.mpr a);rw[M8]at h;ext led;show h.2;show h.1
def E1{m:Nat}(b:m<256)(a:v<8)(led:Bool):qG led m v=true/\put m v<256:=by let h:=NV.mp (NV.mp CD m (Nm.mpr b)) v (Nm.mpr a);rw[M8,M8,OV]at h;show⟨?_,h.2⟩;ext led;show h.1.2;show h.1.1
def qF{m:Nat}:v∈lst m↔v<8/\m/2^v%2=1:=by unfold lst;rw[Nv,Nm,Og]
def BG{m:Nat}(h:v∈lst m):put m v=m:=by unfold put;rw[M9 (qF.mp h).2]
def mM{m:Nat}(u:m<256)(i:v<8)(q:v∉lst m)(led:Bool) :
  (iN led m).freeSlot (v:Int)=some (v,false)/\(iN led m).put v=(d7 led m v,at_ m v)/\lst (put m v)=(lst m).take (at_ m v)++v::(lst m).drop (at_ m v)/\(d7 led m v).fits (lst (put m v)).length=true /\ (if(d7 led m v).tooFull then(d7 led m v).relaid ((lst (put m v)).map Int.ofNat).toArray (SetTable.grown (lst (put m v)).length)=some (iN led (put m v),(List.range (lst (put m v)).length).toArray)/\(iN led (put m v)).fits (lst (put m v)).length=true else d7 led m v=iN led (put m v)):=by
 let h:=(E1 u i led).1;unfold qG at h;let n:(m/2^v%2==1)=false:=by
  cases e:m/2^v%2==1
  ·rfl
  ·show absurd (qF.mpr ⟨i,by simpa using e⟩) q
 rw[n]at h;simp only[Po,Ps,M8,Og]at h;obtain⟨⟨⟨⟨⟨g,x⟩,s⟩,r⟩,w⟩,f⟩:=h;show(⟨?_,Prod.ext (jp x) s,r,w,?_⟩)
 ·cases e:(iN led m).freeSlot v with
  |none=>rw[e]at g;ext g|some p =>obtain⟨j,d⟩:=p;rw[e]at g;simp only[M8,Og,Bool.not_eq_true']at g;rw[g.1,g.2]
 ·by_cases l:(d7 led m v).tooFull=true
  ·rw[M9 l]at f ⊢
   cases e:(d7 led m v).relaid ((lst (put m v)).map Int.ofNat).toArray (SetTable.grown (lst (put m v)).length)with
   |none=>rw[e]at f;ext f|some p =>obtain⟨t,o⟩:=p;rw[e]at f;simp only[M8,Og]at f;obtain⟨⟨a,b⟩,c⟩:=f;show⟨?_,c⟩;obtain⟨o⟩:=o;rw[jp a];let b:o=_:=b;rw[b]
  ·rw[NJ l]at f ⊢
   show jp f
def lF:Value->Option Int
 | .int i _=>some i|_=>none
def oU(h:lF x=some i):∃t,x=.int i t:=by ext x<;>simp[lF]at h;subst h;show⟨_,rfl⟩
def gj(a:List (Int×Value))(m:Nat):Prop:=a.map (λe=>(e.1,lF e.2))=(lst m).map λv:Nat=>((v:Int),some (v:Int))
def SX(w:World)(a:Addr)(m:Nat)(h:Heap):Prop:=∃o b c,h.get? a=some o/\o.ExactSet/\o.data=.set b c (iN (!w.params.followText "set-order") m)/\gj b.toList m
def mT:∀v,v<8->hashInt (v:Nat)=(v:Nat):=by decide +kernel
def gj.len{m:Nat}(h:gj a m):a.length=(lst m).length:=by
 have:=N6 List.length h
 simpa using this
theorem Ia{m:Nat}(h:v∈lst m):v<8:=(qF.mp h).1
def gj.at{m:Nat}(h:gj a m)(b:e∈a):∃v t,v∈lst m/\e=((v:Int),.int (v:Int) t):=by have:(e.1,lF e.2)∈a.map (λe=>(e.1,lF e.2)):=NA.mpr (Y_12 e b rfl);rw[h]at this;let⟨v,c,q⟩:=NA.mp this;obtain⟨f,d⟩:=e;simp only[Prod.mk.injEq]at q;let⟨t,z⟩:=oU q.2.symm;exists v,t,c,by rw[z,<-q.1]
def gj.has{m:Nat}(h:gj b m)(c:v∈lst m):∃t,((v:Int),Value.int (v:Int) t)∈b:=by
 have:((v:Int),some (v:Int))∈(lst m).map λv:Nat=>((v:Int),some (v:Int)):=NA.mpr (Y_12 v c rfl);rw[<- h]at this;let⟨e,a,q⟩:=NA.mp this;obtain⟨u,t,-,rfl⟩:=h.at a;have:u=v:=by lia
 subst this;show⟨t,a⟩
section
variable{prog:Program}{w:World}{A:Around}{E:Value->Shared->Prop}{s:Shared}
def gj.elems{m:Nat}(h:gj a m):ElemsOf (intKind prog w) a:=by intro e b;let⟨v,t,c,rfl⟩:=h.at b;show⟨Y_12 v (by simp[intKind,Value.isInt]) ((mT v (Ia c)).symm),rfl⟩
def gj.insert{m t:Nat}(h:gj a.toList m)(e:m<256)(c:v<8)(b:v∉lst m):gj (SetTable.insertAt a (at_ m v) ((v:Int),.int (v:Int) t)).toList (put m v):=by obtain⟨-,-,d,-,-⟩:=mM e c b true;unfold gj at h ⊢;rw[d,SetTable.toList_insertAt,NP,NE,Pk,P8,h,NP,NE,Pk,P8];rfl
def Mg{m:Nat}{tk:Tok}(hm:m<256)(hv:v<8)(hS:SX w a m s.heap)(h:∀h' b,Heap.SameBut a s.heap h' ->SX w a (put m v) h' ->Q b {s with heap:=h'}) :
  wpAny (model prog w) A (setAddHashed a (.int (v:Int) tk) (hashInt (v:Nat))) Q E s:=by
 let⟨o,es,ep,ho,hex,hd,he⟩:=hS
 generalize hled:(!w.params.followText "set-order")=led at hd
 let hsz:es.size=(lst m).length:=he.len;let hf:(iN led m).fits es.size=true:=by rw[hsz];show fits hm led
 let hel:ElemsOf (intKind prog w) es.toList:=he.elems;let h8:(lst m).length<=8:=by unfold lst;show Nd (Nw _ _) 03
 let hb:es.size<scanBound:=by rw[hsz];unfold scanBound;lia
 let hkey:(intKind prog w).is v (.int v tk)=true:=by simp[intKind,Value.isInt]
 show OP (M1 (QA ho hd hf ?_));dsimp only;rw[byScan_of rfl hb hel,M9 rfl];show M1 (M1 (wpAny_rule (M1 (wpAny_setScan_of hkey ho hd hf hel ?_))));cases hr:List.findIdx? (λe=>(intKind prog w).is v e.2) es.toList with
 |some j =>
  show NK (NK ?_);let hin:v∈lst m:=by
   obtain⟨hj,hp,-⟩:=List.findIdx?_eq_some_iff_getElem.mp hr;let⟨u,t,hu,z⟩:=he.at (OE hj);rw[z]at hp;let hp:Value.isInt v (.int u t)=true:=hp;let⟨t',e⟩:=Value.isInt_shape hp;let e2:u=v:=by
    injection e with e1 e2
    lia
   rwa[<- e2]
  have:=h s.heap false (Heap.SameBut.refl a s.heap) (by rw[BG hin];exists o,es,ep,ho,hex,by rwa[hled],he);show this
 |none =>
  let hn:v∉lst m:=λhin=>by let⟨t,z⟩:=he.has hin;have:=List.findIdx?_eq_none_iff.mp hr _ z;simp[intKind,Value.isInt]at this
  let⟨k1,k2,k3,k4,k5⟩:=mM hm hv hn led;let hE:=he.insert (t:=tk) hm hv hn;let hl:=hE.len;let hl2:(lst (put m v)).length<=8:=by unfold lst;show Nd (Nw _ _) 03
  let eL:layNew (iN led m) es (hashInt v) (.int v tk)=(SetTable.insertAt es (at_ m v) (v,.int v tk),d7 led m v,false,false):=by
   unfold layNew;rw[mT v hv,k1];dsimp only;rw[k2];let z:(d7 led m v).fits (SetTable.insertAt es (at_ m v) (v,.int v tk)).size=true:=by rwa[<- Ng,hl]
   unfold SetTable.orStandIn;rw[z];rfl
  rw[eL];show M1 ((NK ?_:wpAny (model prog w) A (pure ()) _ E _));show M1 (NK ?_);let hpk:plainKind (.int v tk)=true:=rfl;simp only[hpk,O6];let hz1:(SetTable.insertAt es (at_ m v) (v,.int v tk)).size<=sizeLine:=by rw[<- Ng,hl,N4];lia
  show M1 (wpAny_storeSet_of ho hd ?_ hz1);let ho1:(s.heap.update a (Obj.putSet (SetTable.insertAt es (at_ m v) (v,.int v tk)) (d7 led m v))).get? a=some {o with data:=.set (SetTable.insertAt es (at_ m v) (v,.int v tk)) (ep+1) (d7 led m v)}:=by let z:=OB (Obj.putSet (SetTable.insertAt es (at_ m v) (v,.int v tk)) (d7 led m v)) ho (by rw[putSet_of _ _ hd];rfl);rwa[putSet_of _ _ hd]at z
  let sb1:=Pr s.heap a (Obj.putSet (SetTable.insertAt es (at_ m v) (v,.int v tk)) (d7 led m v));let nd:(!false&&(d7 led m v).tooFull)=(d7 led m v).tooFull:=rfl;rw[nd]
  by_cases ht:(d7 led m v).tooFull=true
  ·rw[M9 ht]at k5 ⊢
   let er:relayAll (d7 led m v) (SetTable.insertAt es (at_ m v) (v,.int v tk)) (SetTable.grown (SetTable.insertAt es (at_ m v) (v,.int v tk)).size)=(SetTable.insertAt es (at_ m v) (v,.int v tk),iN led (put m v),false):=by
    generalize hg:SetTable.insertAt es (at_ m v) (v,.int v tk)=es1 at hE hl ⊢
    let hm1:es1.map (·.1)=((lst (put m v)).map Int.ofNat).toArray:=by
     apply Array.toList_inj.mp
     rw[Array.toList_map];have:=N6 (List.map Prod.fst) hE;rwa[NY,NY]at this
    let hz:es1.size=(lst (put m v)).length:=by rw[<- Ng,hl]
    unfold relayAll;rw[hm1,hz,k5.1];dsimp only;let hf2:(List.range (lst (put m v)).length).toArray.filterMap (es1[·]?)=es1:=by
     apply Array.toList_inj.mp
     rw[Array.toList_filterMap,<-hz];show filterMap_getElem?_range es1
    rw[hf2,hz,k5.2];have:coversAll (List.range (lst (put m v)).length).toArray (lst (put m v)).length=true:=by unfold coversAll;show List.isPerm_iff.mpr (List.Perm.refl _)
    rw[this];rfl
   rw[er];show M1 ((NK ?_:wpAny (model prog w) A (pure ()) _ E _));show M1 (wpAny_storeSet_of ho1 rfl ?_ hz1);show NK (NK ?_);let z:=OB (Obj.putSet (SetTable.insertAt es (at_ m v) (v,.int v tk)) (iN led (put m v))) ho1 (by rw[putSet_of _ _ rfl];rfl);rw[putSet_of _ _ rfl]at z;show h _ _ (sb1.trans (Pr _ a _)) ⟨_,_,_,z,hex,by rw[hled],hE⟩
  ·rw[NJ ht]at k5 ⊢
   show NK (NK ?_);show h _ _ sb1 ⟨_,_,_,ho1,hex,by rw[hled,<-k5],hE⟩
end
def pc(f:Nat->Nat):Nat->Nat->Nat->Nat
 |0,_,m=>m|k+1,i,m=>pc f k (i+1) (put m (f i))
theorem SX.at{m:Nat}(x:SX w a m h)(k:∀o,h.get? a=some o->b.get? a=some o):SX w a m b :=
 let⟨o,es,ep,ho,r⟩:=x
 ⟨o,es,ep,k o ho,r⟩
section
variable{prog:Program}{w:World}{A:Around}{E:Value->Shared->Prop}
def Ib{G:Array GenState->Array GenState->Prop}{P:Nat->Value->Prop}{St:Nat->Shared->Prop}(W:WalksS prog w A.in1 I fp wr G n P St)(hD:D∉fp)(f:Nat->Nat)(hf:∀i v,P i v->f i<8/\∃t,v=.int (f i:Nat) t) :
  ∀(k i:Nat)(s:Shared)(m:Nat),n-i=k->i<=n->St i s->m<256->SX w D m s.heap->(∀s',Moved (D::wr) G s s' ->SX w D (pc f k i m) s'.heap->R (.ok (.ret .none)) s') -> codeAny (model prog w) A (.builtin "set.update.loop" ⟨[.ref D,.ref I],[]⟩) R s:=by
 let hDw:=λz=>hD (W.sub _ z);let sub:∀b∈wr,b∈D::wr:=λb z=>M4 _ z;intro k
 induction k with
 |zero =>
  intro i s m hk hi st hm hS hR;let e:i=n:=by lia
  subst e;show P0 PyProof.Rows.F.entry_set_update_loop ?_;show M1 (W.done s _ _ st λs' mv=> ?_);show NK (hR s' (mv.mono sub) (hS.at λo z=>mv.heap D o hDw z))
 |succ k ih =>
  intro i s m hk hi st hm hS hR;let lt:i<n:=by lia
  show P0 PyProof.Rows.F.entry_set_update_loop ?_;show M1 (W.item i s _ _ lt st λv s' hP st' mv=> ?_);show X_02 (λh8=>X_11 λt R2=> ?_) (hf i v hP);subst R2;show M1 (OP ?_);show OP (M1 ((intKind prog w).pyHash (k:=f i) (by simp[intKind,Value.isInt]) ?_));show Mg hm h8 (hS.at λo z=>mv.heap D o hDw z) λh' b sb hS2=> ?_;show NK ⟨plainId_quiet Pf _,ih (i+1) _ _ 00 lt (W.frame _ s' h' _ st' (PY _) λc hc o z=> ?_) (E1 hm h8 true).2 hS2 λs2 mv2 hS3=> ?_⟩
  ·rw[sb.2 c λ q=>hD (by rwa[<- q])]
   show z
  ·show hR s2 (Moved.trans W.gtrans ((mv.mono sub).then_heap (PY _) λc o hc z=> ?_) mv2) hS3
   rwa[sb.2 c λ q=>hc (by rw[q];show M7)]
variable{s:Shared}
def bare(led:Bool):Obj:={cls:=.type "set",dict:=none,data:=.set #[] 0 (.fresh 0 0 led)}
def F5(e:h.get? a=some (bare (!w.params.followText "set-order"))):SX w a 0 h:=by
 show⟨_,#[],0,e,⟨rfl,rfl,rfl⟩,?_,by unfold gj;rfl⟩;unfold bare;have:iN (!w.params.followText "set-order") 0=.fresh 0 0 (!w.params.followText "set-order"):=by cases w.params.followText "set-order"<;>show jp 01
 rw[this]
def LW(v:Value){Q:Value->Shared->Prop}(h:Q (.ref s.heap.objs.size) {s with heap:=s.heap.push (bare (!w.params.followText "set-order"))}) :
  codeAny (model prog w) A (.call (.builtin "set.__new__") ⟨[.type "set",v],[]⟩) (wants Q E) s:=by
 show codeAny_of_tree ?_;show M1 (wpAny_of_eq (F.newCall_set_1 v) (NK ⟨plainId_quiet F.plain_set_new _,P0 F.entry_set_new ?_⟩));unfold Builtin.«set.__new__» Builtin.Frozenset.newClass;let a:=sub_set_self;obtain⟨e,g,d,b,c⟩:=s;dsimp only
 wp_walk
 show Pl (NK ?_);show M1 (wpAny_alloc (NK ?_));show NK h
open J
set_option maxHeartbeats 3200000 in
def Kz{l:Addr}{its:Array Value}{f:Nat->Nat}{Q:Value->Shared->Prop}(hh:A.handled=none)(hl:s.heap.IsList l its)(hi:∀i v,its[i]? =some v->f i<8/\∃t,v=.int (f i:Nat) t)
  (h:∀(h' :Heap)(tk:Nat),SX w s.heap.objs.size (pc f its.size 0 0) h' ->(∀b o,b<s.heap.objs.size->s.heap.get? b=some o->h'.get? b=some o)->Q (.ref s.heap.objs.size) {s with heap:=h',toks:=tk}) :
  wpAny (model prog w) A (call (.type "set") [.ref l]) Q E s:=by
 obtain⟨c,tl,mro⟩:=F.called_set.mro;let made:=F.called_set.made;let sub:=F.called_set.sub;show wpAny_call (codeAny_of_tree ?_);change wpAny _ _ (callAny (.type "set") _) _ _ _;show NK ⟨Code.quiet_builtin _ 01,P0 F.entry_type_call ?_⟩;rw[Around.under_plain (weight_type_call_type "set" [.ref l] []) rfl];let n1:=F.called_set.notType;let n2:=F.called_set.canCreate;let n3:=F.typeCall_set_1 (.ref l)
 repeat(any_goals (first|assumption|wp_step))
 show QB (LW (.ref l) (E:=E) (Q:=fun ob s₁=>ob=.ref s.heap.objs.size/\s₁={s with heap:=s.heap.push (bare (!w.params.followText "set-order"))}) ⟨rfl,rfl⟩) fun r s₁ hr=> ?_;cases r with
 | error e=>show hr
 | ok fl =>
  cases fl with
  | ret ob =>
   obtain⟨rfl,rfl⟩:=hr;let hS:(s.heap.push (bare (!w.params.followText "set-order"))).get? s.heap.objs.size=some (bare (!w.params.followText "set-order")):=NR _ rfl;let hT:Shared.TypeIs {s with heap:=s.heap.push (bare (!w.params.followText "set-order"))} (.ref s.heap.objs.size) "set":=⟨_,hS,rfl⟩;let m1:=F.called_set.init.lookup;let m2:=F.called_set.init.bind (.ref s.heap.objs.size)
   repeat(any_goals (first|assumption|wp_step))
   show QB (codeAny_call_builtin (R:=wants (fun r s₂=>r=.none/\∃h' tk,s₂={s with heap:=h',toks:=tk}/\SX w s.heap.objs.size (pc f its.size 0 0) h' /\(∀b o,b<s.heap.objs.size->s.heap.get? b=some o->h'.get? b=some o)) E) F.called_set.init.plain F.entry_set_init (check_set_init_1 hT ?_)) fun r₂ s₂ hr₂=> ?_
   ·obtain⟨ol,hol,cl,nl,dl⟩:=hl
    obtain⟨oc,od,ot,os⟩:=ol;simp only at cl dl;subst cl dl;let hol' :(s.heap.push (bare (!w.params.followText "set-order"))).get? l=some {cls:=.type "list",dict:=od,data:=.seq its nl,slots:=os}:=M3 _ hol;let q1:=F.sub_list_set;let q2:=F.sub_list_frozenset;let q3:(Value.type "list"==Value.type "dict")=false:=by decide
    let hl1:(s.heap.push (bare (!w.params.followText "set-order"))).IsList l its:=⟨_,hol',rfl,nl,rfl⟩;unfold Builtin.«set.__init__» noKeywords Builtin.Frozenset.updateFrom
    generalize hPI:pyIter=PI
    wp_walk
    subst hPI;show QY hl1 (M1 (wpAny_runValue ?_));let lS:l<s.heap.objs.size:=NQ hol;let h3:A.in1.in1.in1.handled=none:=by simp[hh]
    let nI:l≠(s.heap.push (bare (!w.params.followText "set-order"))).objs.size:=by
     rw[Of];show Na (OG lS)
    let nf:s.heap.objs.size∉[(s.heap.push (bare (!w.params.followText "set-order"))).objs.size,l]:=by
     rw[Of];simp only[NH,Nk,Oa,not_or];show⟨Na (Nat.lt_succ_self _),Oi lS⟩
    show Ib ((Walks.list h3 _ l nI its).toS) nf f hi its.size 0 _ 0 00 (No _) ⟨⟨_,NR _ rfl,rfl,rfl⟩,hl1.push _⟩ 00 (F5 (M3 _ hS)) ?_;intro s' mv hS';obtain⟨h',g',d',tk',os'⟩:=s';let e1:g' =s.gens:=mv.gens;let e2:d' =s.drawn:=mv.drawn;let e3:os' =s.os:=mv.os;subst e1 e2 e3;change wpAny _ _ _ _ _ _;show NK ?_;change wpAny _ _ (ret Value.none) _ _ _;show NK ⟨rfl,h',tk',rfl,hS',fun b o hb e=> ?_⟩;show mv.heap b o ?_ (M3 _ (M3 _ e));let z1:b≠s.heap.objs.size:=Na hb;let z2:b≠(s.heap.push (bare (!w.params.followText "set-order"))).objs.size:=by
     rw[Of];show Na (OG hb)
    simp only[NH,Nk,Oa,not_or];show⟨z1,z2⟩
   ·cases r₂ with
    | error e=>show hr₂
    | ok fl₂ =>
     cases fl₂ with
     | ret r =>
      obtain⟨rfl,h',tk,rfl,hS',hk'⟩:=hr₂
      repeat(any_goals (first|assumption|wp_step))
      show h _ _ hS' hk'
     | _=>show hr₂.elim
  | _=>show hr.elim
end
theorem vq:entryFor table "set.__iter__"=some Builtin.«frozenset.__iter__» := entryFor_alias (id' :="frozenset.__iter__") 04 rfl 01 04
theorem d6:Slot "set_iterator" "__next__" "set_iterator.__next__" :=
 .of (owner:="set_iterator") (n:="__next__") (by rw[typeLookup_type,builtinLookup_eq_fast];kernel_rfl) 01 01 01
  (by first|show .inl 01|show .inr 01) (by rw[isSubtype_type];kernel_rfl)
theorem mf:entryFor table "set_iterator.__next__"=some Builtin.«set_iterator.__next__»:=entryFor_of_tree 04
def pF(a:Value):argsOk "set_iterator.__next__" ⟨[a],[]⟩:=by
 kernel_rfl
theorem wx{b:Type}(f:Nat->Nat):∀(k i:Nat)(l:List b)(o:Array b),l.length=k->(pickOrder.go f k i l o).toList.Perm (o.toList++l)
 |0,i,l,o,h=>by have:l=[]:=List.eq_nil_of_length_eq_zero h;subst this;unfold pickOrder.go;simp
 |k+1,i,l,o,h=>by
  unfold pickOrder.go;let a:f i%l.length<l.length:=Nat.mod_lt _ 00;rw[M5 a];show(wx f k (i+1) _ _ (by rw[List.length_eraseIdx,M9 a];lia)).trans ?_;rw[Array.toList_push,PU];show List.Perm.append_left _ ?_;let e:l=l.take (f i%l.length)++l[f i%l.length]::l.drop (f i%l.length+1):=by rw[<- Os a,List.take_append_drop]
  rw[List.eraseIdx_eq_take_drop_succ];show List.Perm.trans ?_ (List.Perm.of_eq e.symm);rw[List.singleton_append];show P6.symm
def oP{b:Type}(f:Nat->Nat)(a:Array b):(pickOrder f a).toList.Perm a.toList:=by
 have:=wx f a.size 0 a.toList #[] rfl
 simpa [pickOrder]using this
section
variable{prog:Program}{w:World}{A:Around}{E:Value->Shared->Prop}{s:Shared}
structure Ord(w:World)(a m ep:Nat)(es:Array (Int×Value))(vs:List Value)(sl:Nat->Nat):Prop where
 len:vs.length=es.size
 perm:vs.Perm (es.toList.map (·.2))
 go:∀{prog:Program}{A:Around}{E:Value->Shared->Prop}{s:Shared}{o:Obj}(i:Nat)(Q:Option (Value×Nat)->Shared->Prop),s.heap.get? a=some o->o.data=.set es ep (iN (!w.params.followText "set-order") m) ->
  Q ((vs[i]?).map fun v=>(v,sl (i+1))) s->i<=es.size->wpAny (model prog w) A (setNext a (sl i) i ep) Q E s
def Kd{m:Nat}(a:m<256):(∀i,i<(lst m).length->SetTable.below (lst m).toArray (if i=0 then 0 else(lst m).getD (i-1) 0+1)=i)/\SetTable.below (lst m).toArray (if(lst m).length=0 then 0 else(lst m).getD ((lst m).length-1) 0+1)=(lst m).length:=by
 let h:=NV.mp AM m (Nm.mpr a);rw[M8,Og]at h;show⟨λi hi=> ?_,h.2⟩;have:=NV.mp h.1 i (Nm.mpr hi)
 simpa using this
open J in
def LL{a m ep:Nat}(g:m<256)(y:gj b.toList m):∃u n,Ord w a m ep b u n/\n 0=0:=by
 let p:b.size=(lst m).length:=y.len;cases d:w.params.followText "set-order" with
 |true =>
  exists (pickOrder (w.params.setOrder a ep) b).toList.map (·.2),λ_=>0,⟨?_,(oP _ _).map _,λ{prog A E s o} i Q ho hd q hi=> ?_⟩,rfl
  ·rw[M0,(oP _ _).length_eq,Ng]
  ·let f:(iN (!w.params.followText "set-order") m).fits b.size=true:=by rw[p];show fits g _
   show M1 (QA ho hd f ?_);show M1 (M1 (Pl (NK ?_)));rw[show(model prog w).w.params.followText "set-order"=true from d,M9 rfl,NJ 03];show M1 (M1 (QA ho hd f ?_));show M1 (M1 (Pl (NK ?_)));rw[show(model prog w).w.params.followText "set-order"=true from d,M9 rfl];show M1 (Pl (NK (NK ?_)));have:((pickOrder (w.params.setOrder a ep) b)[i]?).map (λe=>(e.2,0))=(((pickOrder (w.params.setOrder a ep) b).toList.map (·.2))[i]?).map λv=>(v,0):=by rw[NG,OW];cases(pickOrder (w.params.setOrder a ep) b)[i]? <;>rfl
   rwa[<- this]at q
 |false =>
  exists b.toList.map (·.2),λi=>if i=0 then 0 else(lst m).getD (i-1) 0+1,⟨03,List.Perm.refl _,λ{prog A E s o} i Q ho hd q hi=> ?_⟩,rfl;let f:(iN (!w.params.followText "set-order") m).fits b.size=true:=by rw[p];show fits g _
  show M1 (QA ho hd f ?_);dsimp only;show M1 (M1 (Pl (NK ?_)));rw[show(model prog w).w.params.followText "set-order"=false from d,NJ ND,d]
  split
  ·rename_i z
   show absurd (show false=true from z) ND
  show M1 ((NK ?_:wpAny (model prog w) A (pure ()) _ E _));let l:=Kd g;let C:(iN (!false) m).place=(lst m).toArray:=rfl;rw[C];let c:SetTable.below (lst m).toArray (if i=0 then 0 else(lst m).getD (i-1) 0+1)=i:=by
   rcases Nat.lt_or_ge i (lst m).length with h|h
   ·show l.1 i h
   ·let e:i=(lst m).length:=by lia
    rw[e];show l.2
  rw[c]
  have:(match b[i]?,(lst m).toArray[i]? with
   |some (_,x),some j=>some (x,j+1)|_,_=>none)=((b.toList.map (·.2))[i]?).map λv=>(v,if i+1=0 then 0 else(lst m).getD (i+1-1) 0+1):=by
   rw[NG,OW]
   rcases Nat.lt_or_ge i b.size with h|h
   ·let r:i<(lst m).length:=by lia
    rw[Array.getElem?_eq_getElem h,List.getElem?_toArray,M5 r];simp[r]
   ·rw[Array.getElem?_eq_none h,List.getElem?_toArray,Nl 00]
    rfl
  rw[<- this]at q;show NK q
end
theorem oH:Slot "set_iterator" "__iter__" "set_iterator.__iter__" :=
 .of (owner:="set_iterator") (n:="__iter__") (by rw[typeLookup_type,builtinLookup_eq_fast];kernel_rfl) 01 01 01
  (by first|show .inl 01|show .inr 01) (by rw[isSubtype_type];kernel_rfl)
theorem vp:entryFor table "set_iterator.__iter__"=some Builtin.«dict_keyiterator.__iter__» := entryFor_alias (id' :="dict_keyiterator.__iter__") 04 rfl 01 04
def zn(a:Value):argsOk "set_iterator.__iter__" ⟨[a],[]⟩:=by
 kernel_rfl
def zx(I a i n b j:Nat)(h:Heap):Prop:=∃o,h.get? I=some o/\o.cls=.type "set_iterator"/\o.data=.fields #[.int (j:Nat) 0,.int (i:Nat) 0,.ref a,.int (n:Nat) 0,.int (b:Nat) 0]
theorem zx.typeIs{s:Shared}(x:zx I a i n b j s.heap):s.TypeIs (.ref I) "set_iterator":=let⟨o,ho,hc,_⟩:=x;⟨o,ho,hc⟩
theorem zx.keep(x:zx I a i n b j h)(k:∀o,h.get? I=some o->c.get? I=some o):zx I a i n b j c :=let⟨o,ho,r⟩:=x;⟨o,k o ho,r⟩
section
variable{prog:Program}{w:World}{A:Around}
open J
set_option maxHeartbeats 3200000 in
theorem Gw(hh:A.handled=none){I a m ep:Nat}{es:Array (Int×Value)}{vs:List Value}{sl:Nat->Nat}{so:Obj}(hne:a≠I)(hm:m<256)(he:gj es.toList m)(hd:so.data=.set es ep (iN (!w.params.followText "set-order") m))(O:Ord w a m ep es vs sl) :
  Walks prog w A I [I,a] [I] vs.length (fun i v=>vs[i]? =some v) (fun i h=>zx I a i es.size ep (sl i) h/\h.get? a=some so) where
 sub:=fun b hb=>by simp at hb;simp[hb]
 frame:=fun _ _ _ st hk=>⟨st.1.keep fun o e=>hk I 03 o e,hk a 03 so st.2⟩
 item:=fun i s Q E hi st hQ=>by
  obtain⟨it,ha⟩:=st;obtain⟨o,ho,hc,hdt⟩:=id it;let hf:(iN (!w.params.followText "set-order") m).fits es.size=true:=by rw[show es.size=(lst m).length from he.len];show fits hm _
  let hx:vs[i]? =some vs[i]:=M5 hi;unfold pyNext;show M1 (wpAny_attempt (P4 (name:=Str.ofString "__next__") it.typeIs d6 (Ob d6 it.typeIs mf ?_ (pF _))));unfold Builtin.«set_iterator.__next__»;show M1 (m:=slotArgs _ _ _) (NK ?_);show M1 (wpAny_fieldsOf ho hdt ?_);dsimp only;show M1 (wpAny_setEntries_of ha hd hf ?_);rw[NJ 03];show M1 (O.go i _ ha hd ?_ (by have:=O.len;lia));rw[hx];dsimp only[Option.map];show M1 (PF ho hdt 03 ?_);let e1:=OB (Obj.mapFields (·.setIfInBounds 0 (rawInt (sl (i+1):Nat)))) ho (Ox (OZ hdt _));let d1:=OZ hdt (·.setIfInBounds 0 (rawInt (sl (i+1):Nat)));show M1 (PF e1 d1 03 (NK ⟨_,rfl,NK ?_⟩));let e2:=OB (Obj.mapFields (·.setIfInBounds 1 (rawInt ((i:Nat)+1)))) e1 (Ox (OZ d1 _));show hQ _ _ s.toks hx ⟨⟨_,e2,((Qa ..).trans (Qa ..)).trans hc,?_⟩,?_⟩ fun b ob hb e=> ?_
  ·rw[OZ d1]
   simp[rawInt]
  ·rw[Nt _ _ (OC hne),Nt _ _ (OC hne)]
   show ha
  ·let nb:I≠b:=fun z=>hb (by simp[z])
   rw[Nt _ _ nb,Nt _ _ nb];show e
 done:=fun s Q E st hQ=>by
  obtain⟨it,ha⟩:=st;obtain⟨o,ho,hc,hdt⟩:=id it;let hf:(iN (!w.params.followText "set-order") m).fits es.size=true:=by rw[show es.size=(lst m).length from he.len];show fits hm _
  unfold pyNext;show M1 (wpAny_attempt (P4 (name:=Str.ofString "__next__") it.typeIs d6 (Ob d6 it.typeIs mf ?_ (pF _))));unfold Builtin.«set_iterator.__next__»;show M1 (m:=slotArgs _ _ _) (NK ?_);show M1 (wpAny_fieldsOf ho hdt ?_);dsimp only;show M1 (wpAny_setEntries_of ha hd hf ?_);rw[NJ 03];show M1 (O.go vs.length _ ha hd ?_ (by have:=O.len;lia));rw[Nl (NB _)];dsimp only[Option.map];show M1 (PF ho hdt 03 ?_);show M1 ?_;simp only[newExc,newTuple];show M1 (Om ?_ (by size_fits));show M1 (m:=firstArgMember _ _) (wpAny_of_eq (a:=Value.none) (by first|rfl|(simp only[firstArgMember];rfl)) ?_);show Om ?_ (by size_fits);simp only[raiseNew];show M1 (wpAny_handled ?_);rw[show A.in1.handled=none from hh];show M1 (NK (wpAny_throw ?_));show M1 (wpAny_isInstance (T:="StopIteration") (b:=true) ⟨_,NR _ rfl,rfl⟩ isSubtype_stop ?_);show NK (hQ _ s.toks fun b ob hb e=> ?_);let nb:b≠I:=fun z=>hb (by simp[z]);show(((Pr ..).extBut.push _).push _) b ob nb e
 self:=fun i s Q E st hQ=>by
  show wpAny_pyIter_slot st.1.typeIs oH (Ob oH st.1.typeIs vp ?_ (zn _));show NK ⟨_,rfl,"set_iterator",_,st.1.typeIs,d6.lookup,hQ⟩
end
section
variable{prog:Program}{w:World}{A:Around}{E:Value->Shared->Prop}{s:Shared}
def Im{m:Nat}{o:Obj}(p:m<256)(n:gj c.toList m)(d:s.heap.get? a=some o)(e:o.ExactSet)(f:o.data=.set c j (iN (!w.params.followText "set-order") m))
  (h:Q (.ref s.heap.objs.size) {s with heap:=s.heap.push {cls:=.type "set_iterator",data:=.fields #[.int (0:Nat) 0,.int (0:Nat) 0,.ref a,.int (c.size:Nat) 0,.int (j:Nat) 0]}}):wpAny (model prog w) A (pyIter (.ref a)) Q E s:=by
 let l:s.TypeIs (.ref a) "set":=⟨o,d,e.1⟩;let g:(iN (!w.params.followText "set-order") m).fits c.size=true:=by rw[show c.size=(lst m).length from n.len];show fits p _
 show wpAny_pyIter_slot l F.slot_set_iter (Ob F.slot_set_iter l vq ?_ (F.args_set_iter_1 _));show M1 (NK ?_);show M1 (M1 (wpAny_setEntries_of d f g (NK ?_)));let i:wpAny (model prog w) A.in1 (setDrawn a) (λb s1=>b=false/\s1=s) E s:=by unfold setDrawn;show M1 (QA d f g ?_);show M1 (M1 (Pl (NK (NK ⟨?_,rfl⟩))));cases(model prog w).w.params.followText "set-order";rfl;rfl
 show M1 (OR i (λb s1 hb=> ?_) λ_ _ x=>x);let⟨rfl,rfl⟩:=hb;show M1 (NK (M1 (wpAny_setEpoch_of d f g ?_)));show M1 (Om (NK (Y_12 _ rfl (Y_23 ("set_iterator") _ ⟨_,NR _ rfl,rfl⟩ d6.lookup h))))
open J
set_option maxHeartbeats 3200000 in
def zU{a m:Nat}{Q:List Value->Shared->Prop}(hh:A.handled=none)(hm:m<256)(hS:SX w a m s.heap)
  (h:∀(s' :Shared)(vs:List Value),vs.map lF=vs.map lF->(vs.map lF).Perm ((lst m).map fun v:Nat=>some (v:Int))->(∀b o,s.heap.get? b=some o->s'.heap.get? b=some o)->s.heap.objs.size<s'.heap.objs.size->s'.gens=s.gens->s'.drawn=s.drawn->s'.os=s.os->Q vs s') :
  wpAny (model prog w) A (collect (.ref a)) Q E s:=by
 obtain⟨o,es,ep,ho,hex,hd,he⟩:=hS;obtain⟨vs,sl,O,hs0⟩:=LL (w:=w) (a:=a) (ep:=ep) hm he;let ha:a<s.heap.objs.size:=NQ ho;let hz:es.size=(lst m).length:=he.len;let h8:(lst m).length<=8:=by
  unfold lst;show Nd (Nw _ _) 03
 let hvl:vs.length<=8:=by rw[O.len,hz];show h8
 unfold collect;show M1 (wpAny_runValue (P0 F.entry_proto_collect ?_));rw[Pj F.plain_proto_collect _];change wpAny _ A.in1 (newList [] >>= fun l=>again (.builtin "list.__iadd__" ⟨[l,.ref a],[]⟩)) _ _ s;show M1 (Om (NK ⟨plainId_quiet F.plain_list_iadd _,P0 F.entry_list_iadd ?_⟩));rw[Pj F.plain_list_iadd _]
 generalize hL:({cls:=.type "list",data:=.seq ([]:List Value).toArray}:Obj)=L0
 let k1:(s.heap.push L0).get? a=some o:=M3 _ ho;let k2:(s.heap.push L0).get? s.heap.objs.size=some L0:=NR _ (by rw[<- hL];rfl);let hT:Shared.TypeIs {s with heap:=s.heap.push L0} (.ref a) "set":=⟨o,k1,hex.1⟩;change wpAny _ A.in1 (Builtin.List.listExtendWith (.ref s.heap.objs.size) (.ref a) (.ref s.heap.objs.size)) _ _ _;unfold Builtin.List.listExtendWith;show M1 (wpAny_typeOf hT ?_);let n1:Builtin.List.listSameRef (.ref s.heap.objs.size) (.ref a)=false:=by
  simp only[Builtin.List.listSameRef,Pe];show Oi ha
 rw[NJ (by rw[n1];decide)];show M1 (Im (s:={s with heap:=s.heap.push L0}) hm he k1 hex hd ?_);dsimp only;rw[show(s.heap.push L0).objs.size=s.heap.objs.size+1 from Of _ _]
 generalize hI:({cls:=.type "set_iterator",data:=.fields #[.int (0:Nat) 0,.int (0:Nat) 0,.ref a,.int (es.size:Nat) 0,.int (ep:Nat) 0]}:Obj)=I0
 let sz:(s.heap.push L0).objs.size=s.heap.objs.size+1:=Of _ _;let j0:((s.heap.push L0).push I0).get? (s.heap.objs.size+1)=some I0:=by rw[<- sz];show NR _ (by rw[<- hI];rfl)
 let j1:((s.heap.push L0).push I0).get? a=some o:=M3 _ k1;let j2:((s.heap.push L0).push I0).get? s.heap.objs.size=some L0:=M3 _ k2;let hT2:Shared.TypeIs {s with heap:=(s.heap.push L0).push I0} (.ref a) "set":=⟨o,j1,hex.1⟩;let hhint:wpAny (model prog w) A.in1 (Builtin.List.listLengthHint (.ref a)) (fun b s1=>s1={s with heap:=(s.heap.push L0).push I0}) E {s with heap:=(s.heap.push L0).push I0}:=by
  unfold Builtin.List.listLengthHint;show M1 (wpAny_specialOf hT2 F.slot_set_len.lookup ?_)
  (generalize aW:("set.__len__":String)=id0;(fail_if_success (clear aW id0));wp_delta;rw[show splitId id0=some ("set","__len__")from by subst aW;decide +kernel];subst aW)
  show M1 (wpAny_isInstance (b:=true) hT2 (by rw[isSubtype_type];kernel_rfl) ?_);rw[NJ (show¬((!true)=true)from ND)];dsimp only;rw[M9 02];show M1 (wpAny_typeOf hT2 ?_);show NK rfl
 show M1 (OP (OR hhint (fun b s1 hb=> ?_) fun _ _ x=>x));subst hb
 split
 case isFalse z =>
  show absurd ?_ z;rw[Od];show .inr 02
 show M1 (wpAny_rule ?_);let hW:=Gw (prog:=prog) (w:=w) (A:=A.in1) hh (I:=s.heap.objs.size+1) (a:=a) (so:=o) 00 hm he hd O;let u1:=OB (Obj.mapSeq (·.push Value.none)) j2 (by rw[<- hL];rfl);show M1 ?_;change wpAny _ A.in1 (updateSeq s.heap.objs.size (·.push .none) >>= fun _=>updateSeq s.heap.objs.size (·.pop)) _ _ _;subst hL;show M1 (wpAny_updateSeq j2 rfl ?_);show wpAny_updateSeq u1 rfl ?_;let u2:=OB (Obj.mapSeq (·.pop)) u1 rfl
 let oth:∀b ob,b≠s.heap.objs.size->((s.heap.push {cls:=.type "list",data:=.seq ([]:List Value).toArray}).push I0).get? b=some ob ->
   ((((s.heap.push {cls:=.type "list",data:=.seq ([]:List Value).toArray}).push I0).update s.heap.objs.size (Obj.mapSeq (·.push Value.none))).update s.heap.objs.size (Obj.mapSeq (·.pop))).get? b=some ob:=fun b ob nb e=>by
  rw[Nt _ _ (OC nb),Nt _ _ (OC nb)];show e
 let nf:s.heap.objs.size∉[s.heap.objs.size+1,a]:=by
  simp only[NH,Nk,Oa,not_or];show⟨00,Oi ha⟩
 show NK ⟨plainId_quiet F.plain_extend_loop _,codeAny_extend_loopS hW.toS (by rw[N4];lia) _ nf _ vs.length 0 _ _ _ rfl (No _) ⟨⟨I0,oth _ _ 00 j0,by rw[<- hI],by rw[<- hI,hs0]⟩,oth _ _ (Na ha) j1⟩ u2 (ItemsOf.nil _) fun s' acc c mv hacc his=> ?_⟩;change wpAny _ A (load s.heap.objs.size >>= _) _ _ s';show M1 (wpAny_load hacc ?_);let eacc:acc.toList=vs:=by
  apply Ow
  intro i;rw[OW];cases e:acc[i]? with
  | some v=>show(his.2 i v e).symm
  | none =>
   have:acc.size<=i:=by simpa using e
   rw[his.1]at this;show(Nl this).symm
 change wpAny _ _ (pure acc.toList) _ _ _;rw[eacc];show NK (h s' vs rfl ?_ (fun b ob e=> ?_) (NQ hacc) mv.gens mv.drawn mv.os)
 ·have:=O.perm.map lF
  show this.trans (List.Perm.of_eq ?_);rw[NY];let z:=N6 (List.map Prod.snd) he;rw[NY,NY]at z;show z
 ·let hb:=NQ e
  show mv.heap b ob ?_ (oth b ob (Na hb) (M3 _ (M3 _ e)));simp only[NH,Nk,Oa,not_or];show⟨Na hb,Na (OG hb)⟩
end
end SQ
namespace SQ
open PySem PyProof.Rows
open H
theorem xQ:∀{b:List Value}{a:List Int},b.map lF=a.map some->IntsAre b a
 |[],[],_=>.nil|[],_::_,h=>by ext h|_::_,[],h=>by ext h|v::b,n::a,h=>by
  rw[NE,NE]at h
  injection h with h1 h2
  let⟨t,rfl⟩:=oU h1;show .cons n t (xQ h2)
def mK(m:Nat):(lst m).Pairwise (·<·):=by show List.Pairwise.filter _ (List.pairwise_lt_range)
section
variable{prog:Program}{w:World}{A:Around}{E:Value->Shared->Prop}{s:Shared}
def Aq{m:Nat}(hh:A.handled=none)(hm:m<256)(hS:SX w a m s.heap)
  (h:∀(s' :Shared)(D c:Nat)(out:Array Value),IntsAre out.toList ((lst m).map λv:Nat=>(v:Int))->s.heap.objs.size<=D->s'.heap.get? D=some (seqObj "list" out c)->(∀b o,s.heap.get? b=some o->s'.heap.get? b=some o)->s'.gens=s.gens->s'.drawn=s.drawn->s'.os=s.os->Q (.ref D) s') :
  wpAny (model prog w) A (call (.builtin "sorted") [.ref a]) Q E s:=by
 let h8:(lst m).length<=8:=by unfold lst;show Nd (Nw _ _) 03
 show Calls.call_function_entry kind_sorted plain_sorted entry_sorted (args_sorted1 _) ?_;show M1 (NK ?_);show M1 (zU hh hm hS λs1 vs _ pm old lt g d os=> ?_);obtain⟨ns,en,pn⟩:∃ns:List Int,vs.map lF=ns.map some/\ns.Perm ((lst m).map λv:Nat=>v):=by
  have:∀ys xs,ys.Perm (xs.map some)->∃ns:List Int,ys=ns.map some/\ns.Perm xs:=by
   intro ys xs p;exists ys.filterMap id,?_,?_
   ·let hall:∀y∈ys,y.isSome=true:=λy hy=>by
     obtain⟨x,-,rfl⟩:=NA.mp (p.mem_iff.mp hy);rfl
    clear p
    induction ys with
    |nil=>rfl|cons y r ih =>
     cases y with
     |none=>show absurd (hall none M7) 03|some v =>rw[List.filterMap_cons_some (by rfl),NE,<-ih λz hz=>hall z (M4 _ hz)]
   ·have:=p.filterMap id
    simpa using this
  show this _ _ (pm.trans (List.Perm.of_eq ?_));rw[NY];rfl
 let hl:vs.length<64:=by let e1:=N6 List.length en;rw[M0,M0]at e1;let e2:=pn.length_eq;rw[M0]at e2;lia
 show M1 (wpAny_newList ?_);let ho:(s1.heap.push (seqObj "list" vs.toArray 0)).get? s1.heap.objs.size=some (seqObj "list" vs.toArray 0):=NR _ rfl;show M1 (OP (Ob slot_list_sort ⟨_,ho,rfl⟩ entry_list_sort (list_sort_tree ho (xQ en) hl λout ns' a1 a2 a3=>(Y_12 _ rfl ?_)) (args_list_sort _)));let e:ns' =(lst m).map λv:Nat=>(v:Int):=by show List.Perm.eq_of_pairwise (λa b _ _ h1 h2=>Int.le_antisymm h1 h2) a3 ?_ (a2.trans pn);rw[Pz];show(mK m).imp λz=>by lia
 subst e;obtain⟨c,hc⟩:=sortedHeap_at ho;show NK (Y_12 _ rfl (h _ _ c out a1 (Ou lt) hc (λb o z=> ?_) g d os));let hb:=NQ (old b o z);rw[sortedHeap_old (Na hb) (by rw[Of];show OG hb)];show M3 _ (old b o z)
end
end SQ
namespace L2
open PySem PySem.Spec PyProof.Rows
def maskOf(a:List Int):Nat:=SQ.pc (λi=>(a.getD i 0).toNat) a.length 0 0
def ff(a:List Int):List Int:=(SQ.lst (maskOf a)).map λv:Nat=>(v:Int)
open H
theorem wd(f:Nat->Nat):∀(k i m:Nat),(∀j,j<k->f (i+j)<8)->m<256->SQ.pc f k i m<256
 |0,_,m,_,h=>h|k+1,i,m,hf,h=>by unfold SQ.pc;show wd f k (i+1) _ (λj hj=> ?_) (SQ.E1 h (hf 0 00) true).2;have:=hf (j+1) 00;rwa[show i+1+j=i+(j+1)by lia]
def Em(h:∀n∈a,0<=n/\n<8):maskOf a<256:=by
 show wd _ _ _ _ (λj hj=> ?_) 00;have:a.getD j 0∈a:=by rw[M6,M5 hj];show OE hj
 have:=h _ this;lia
section
variable{X:Cx}
def zX(hc:X.calm=true):bQ X (.type "set") (λxs H Q=>∃(p:Addr)(ns:List Int),xs=[.ref p]/\bG X.K H p (ns.map V.int)/\(∀n∈ns,0<=n/\n<8)/\∀a,H a=none->Q (.ref a) (upd H a (.ext (SQ.SX X.w a (maskOf ns))))):=by
 intro pins s σ H xs us Q I r h;let⟨p,ns,rfl,hq,h8,q⟩:=h;let⟨u,rfl,rx⟩:=vals1 r;ext rx;let⟨its,r',pl,hz⟩:=I.list hq;let hlen:=r'.length;rw[M0]at hlen;show SQ.Kz (f:=λi=>(ns.getD i 0).toNat) (I.ok.hd hc) pl.isList (λi v hv=> ?_) λh' tk hS old=> ?_
 ·let hv:its[i]? =some v:=by simpa using hv
  let⟨t,e⟩:=ky r' hv;let hi:i<ns.length:=by have:=(NC.mp hv).1;lia
  let hm:ns.getD i 0∈ns:=by rw[M6,M5 hi];show OE hi
  have:=h8 _ hm;show⟨00,t,?_⟩;rw[e]
  congr 1
  lia
 ·let ez:its.toArray.size=ns.length:=by rw[NM,hlen]
  rw[ez]at hS;exists .ref s.heap.objs.size,_,I.laid (o:=.ext (SQ.SX X.w s.heap.objs.size (maskOf ns))) (λb o z=>old b o (NQ z) z) (NB _) ⟨hS,?_,λh1 h2 x k=>x.at k⟩,rfl,q _ (I.hok.fresh (NB _));let⟨o,es,ep,ho,_⟩:=hS;show⟨o,ho⟩
theorem Inv.ext{s:Shared}(I:Inv X b d H s)(h:H a=some (.ext c)):c s.heap:=(show aw X.prog X.w H s.heap a (.ext c)from I.hok a _ h).1
def kf(hc:X.calm=true):bQ X (.builtin "sorted") (λxs H Q=>∃(p:Addr)(m:Nat),xs=[.ref p]/\m<256/\H p=some (.ext (SQ.SX X.w p m))/\∀a,H a=none->Q (.ref a) (upd H a (.lst ((SQ.lst m).map λv:Nat=>V.int (v:Int))))):=by
 intro pins s σ H xs us Q I r h;let⟨p,m,rfl,hm,hp,q⟩:=h;let⟨u,rfl,rx⟩:=vals1 r;ext rx;show SQ.Aq (I.ok.hd hc) hm (I.ext hp) λs' D c out a1 le hD old g d os=> ?_;obtain⟨h',g',d',tk',os'⟩:=s';subst g d os;exists .ref D,_,I.laid (λb o z=>old b o z) le ?_,rfl,q _ (I.hok.fresh le);let h8:(SQ.lst m).length<=8:=by unfold SQ.lst;show Nd (Nw _ _) 03
 show⟨by rw[M0,N4];lia,out.toList,c,?_,by simpa [seqObj]using hD⟩;have:=fK a1;rwa[NY]at this
end
end L2
namespace SW
open PySem PySem.W PyProof.Rows
def run{b:Type}(f:Nat->Nat->Bool):KasT b->b
 | .ret a=>a| .ask i j k=>run f (k (f i j))
def Ok{c:Type}(n:Nat)(P:c->Prop):KasT c->Prop
 | .ret a=>P a| .ask i j k=>i<n/\j<n/\∀b,Ok n P (k b)
theorem Ok.bind{c e:Type}{n:Nat}{P:c->Prop}{R:e->Prop}{g:c->KasT e}(d:∀a,P a->Ok n R (g a)):∀{t:KasT c},Ok n P t->Ok n R (t.bind g)
 | .ret a,h=>d a h| .ask i j k,h=>⟨h.1,h.2.1,λb=>Ok.bind d (h.2.2 b)⟩
theorem Ok.wp{c:Type}{n:Nat}{P:c->Prop}{b:Nat->Nat->(Bool->Shared->Prop)->Shared->Prop}{f:Nat->Nat->Bool}{Q:c->Shared->Prop}{s:Shared}(d:∀i j C,i<n->j<n->C (f i j) s->b i j C s) :
  ∀{t:KasT c},Ok n P t->Q (run f t) s->t.kasWp b Q s
 | .ret a,_,h=>h| .ask i j k,o,h=>d i j _ o.1 o.2.1 (Ok.wp d (o.2.2 _) h)
theorem Ok.out{b:Type}{n:Nat}{P:b->Prop}{f:Nat->Nat->Bool}:∀{t:KasT b},Ok n P t->P (run f t)
 | .ret a,h=>h| .ask i j k,h=>Ok.out (t:=k (f i j)) (h.2.2 _)
def B(n:Nat)(p:Array Nat):Prop:=p.toList.Perm (List.range n)
theorem B.perm(h:B n p)(b:a.Perm p):B n a :=(Array.perm_iff_toList_perm.mp b).trans h
open H
def B.lt(b:0<n)(h:B n p)(x:Nat):p.getD x 0<n:=by
 by_cases a:x<p.size
 ·let e:p.getD x 0=p[x]:=by simp[Array.getD,a]
  rw[e];show Nm.mp (h.mem_iff.mp (Array.getElem_mem_toList a))
 ·let e:p.getD x 0=0:=by simp[Array.getD,a]
  rwa[e]
section
variable{n:Nat}(hn:0<n)
include hn
theorem vU{p:Array Nat}(h:B n p):∀k m,Ok n (λ_=>True) (kas_asc p k m)
 |0,_=>trivial|k+1,m=>⟨h.lt hn _,h.lt hn _,λb=>by ext b<;>first|show trivial|show vU h k (m+1)⟩
theorem lR:∀(k:Nat)(p:Array Nat)(m q:Nat),B n p->Ok n (λr=>B n r.1) (kas_desc k p m q)
 |0,p,_,_,h=>h|k+1,p,m,q,h=>⟨h.lt hn _,h.lt hn _,λb=>by
  cases b with
  |true =>
   change Ok n _ (if q>0 then kas_desc k (kas_rev p (m-(q+1)) m) (m+1) 0 else kas_desc k p (m+1) 0)
   split;show lR k _ _ _ (h.perm (mirror_perm _ _ _ _));show lR k _ _ _ h
  |false=>show⟨h.lt hn _,h.lt hn _,λb=>by
    ext b
    ·show lR k p (m+1) (q+1) h
    ·show h⟩⟩
def tH{m:Nat}(h:B n p):Ok n (λr=>B n r.2) (kas_tail3 m r p):=by show Ok.bind (λ_ _=> ?_) (vU hn (h.perm (mirror_perm _ _ _ _)) _ _);show h.perm (mirror_perm _ _ _ _)
def kz{m:Nat}(h:B n p):Ok n (λr=>B n r.2) (kas_descPart m r p):=by
 show Ok.bind (λa ha=> ?_) (lR hn _ _ _ _ h)
 split;show tH hn (ha.perm (mirror_perm _ _ _ _));show tH hn ha
def Bk(h:B n p):Ok n (λr=>B n r.2) (kas_count r p):=by
 show Ok.bind (λa _=> ?_) (vU hn h _ _)
 split;show h
 ·split
  ·show⟨h.lt hn _,h.lt hn _,λb=>by
    ext b
    ·show kz hn (h.perm (mirror_perm _ _ _ _))
    ·show h⟩
  ·show kz hn h
theorem mG{p:Array Nat}{m:Nat}(h:B n p):∀k l r,Ok n (λ_=>True) (kas_place p m k l r)
 |0,_,_=>trivial|k+1,l,r=>by
  unfold kas_place
  split;show trivial
  ·show⟨h.lt hn _,h.lt hn _,λb=>by
    ext b
    ·show mG h k _ _
    ·show mG h k _ _⟩
theorem Bl:∀(k:Nat)(p:Array Nat)(m:Nat),B n p->Ok n (λp=>B n p) (kas_bin k p m)
 |0,_,_,h=>h|k+1,p,m,h=>Ok.bind (λl _=>Bl k _ _ (h.perm (bubble_perm _ _ _))) (mG hn h _ _ _)
def pz:Ok n (λp=>B n p) (kas_sort n):=by
 let a:B n (List.toArray (List.range n)):=.refl _;show Ok.bind (λr hr=> ?_) (Bk hn a)
 split;show Bl hn _ _ _ hr;show hr
end
section
variable{prog:Program}{w:World}{A:Around}{E:Value->Shared->Prop}{s:Shared}
def w9(f:Nat->Nat->Bool)(a:List Value):List Value:=(run f (kas_sort a.length)).toList.map λi=>a.getD i Value.none
def Ec(h:1<=a.length):(w9 f a).length=a.length:=by unfold w9;rw[M0,(pz h).out.length_eq,NT]
def Er{κ:SortKind}{f:Nat->Nat->Bool}{P:PySem.Fin->Shared->Prop}(ho:s.heap.get? a=some (seqObj "list" vs.toArray n))(h2:2<=vs.length)(h64:vs.length<64)
  (hk:∀(s1:Shared)(Q:SortKind->Shared->Prop),(∀b o,b≠a->s.heap.get? b=some o->s1.heap.get? b=some o)->Q κ s1->wpAny (model prog w) A (keyKind' vs.toArray) Q E s1)
  (hc:∀(s1:Shared) i j C,(∀b o,b≠a->s.heap.get? b=some o->s1.heap.get? b=some o)->i<vs.length->j<vs.length->C (f i j) s1->kas_ask prog w A κ vs i j C s1)
  (h:P (.done (.ret .none)) {s with heap:=sortedHeap s.heap a vs (w9 f vs).toArray}) :
  wpAny (model prog w) A (Builtin.«list.sort» ⟨[.ref a],[]⟩) P E s:=by
 rw[list_sort_plain];show M1 (listItems_at ho rfl (M1 (listUpdate_at ho rfl ?_ (by rw[NM,N4];lia) (No _))));obtain⟨e1,g1⟩:∃e1,(s.heap.update a (Obj.mapSeq λ_=>(#[]:Array Value))).get? a=some (seqObj "list" #[] e1):=⟨_,get?_update_seq ho λ_=> #[]⟩;show M1 (seqEpoch_at g1 rfl (M1 (wpAny_newTuple ?_ (by change vs.length<=_;rw[N4];lia))));show M1 (wpAny_newList ?_ (No _));show OP ?_;let g2:(((s.heap.update a (Obj.mapSeq λ_=>(#[]:Array Value))).push (seqObj "tuple" vs.toArray 0)).push (seqObj "list" #[] 0)).get? a=some (seqObj "list" #[] e1):=M3 _ (M3 _ g1)
 let old:∀b o,b≠a->s.heap.get? b=some o->(((s.heap.update a (Obj.mapSeq λ_=>(#[]:Array Value))).push (seqObj "tuple" vs.toArray 0)).push (seqObj "list" #[] 0)).get? b=some o:=λb o nb e =>M3 _ (M3 _ (by rwa[Nt _ _ (OC nb)]))
 let n2:¬vs.toArray.size<2:=by rw[NM];lia
 rw[NJ n2,NJ n2];show M1 (hk _ _ old ?_)
 show M1 (OR (kat_run (Q:=λst' s' =>∃p,p=run f (kas_sort vs.length)/\s' ={s with heap:=((s.heap.update a (Obj.mapSeq λ_=>(#[]:Array Value))).push (seqObj "tuple" vs.toArray 0)).push (seqObj "list" #[] 0)}/\arrOf st' =p.map (kas_item (vs.toArray.zip vs.toArray))/\failedOf st' =none) (G:=λp s' =>p=run f (kas_sort vs.length)/\s' ={s with heap:=((s.heap.update a (Obj.mapSeq λ_=>(#[]:Array Value))).push (seqObj "tuple" vs.toArray 0)).push (seqObj "list" #[] 0)}) rfl h2 h64 (λp' st' s' _ a2 a3 a4=>(Y_14 p' a4.1 a4.2 a2 a3)) ((pz 00).wp (λi j C hi hj q=>hc _ i j C old hi hj q) ⟨rfl,rfl⟩)) ?_ λ_ _ e=>e)
 rintro⟨⟨⟩,st'⟩ s' ⟨p,rfl,rfl,har,hf⟩;dsimp only;let hout:(arrOf st').map (·.2)=(w9 f vs).toArray:=kat_snds rfl har;rw[hout];show M1 (seqEpoch_at g2 rfl ?_);show M1 (listUpdate_at g2 rfl ?_ (No _) (by rw[NM,Ec 00,N4];lia));rw[hf];simp only[bne_self_eq_false,Po,Ps];show NK h
end
end SW
set_option maxHeartbeats 400000
namespace SW
open PySem PySem.W PyProof.Rows
def eT(h:Heap)(v:Value)(q:Int×Int):Prop:=∃a t u,v=.ref a/\IsTup h a #[.int q.1 t,.int q.2 u]
open H
def eT.keep(x:eT h v q)(k:∀b o,h.get? b=some o->c.get? b=some o):eT c v q:=by let⟨a,t,u,e,z⟩:=x;exists a,t,u,e,z.keeps k
def ltP(p q:Int×Int):Bool:=decide (p.1<q.1\/p.1=q.1/\p.2<q.2)
def AB(a:List (Int×Int)):List Nat:=if a.length<2 then List.range a.length else(run (λi j=>ltP (a.getD i (0,0)) (a.getD j (0,0))) (kas_sort a.length)).toList
def mP(a:List (Int×Int)):(AB a).Perm (List.range a.length):=by
 unfold AB
 split;show .refl _;show(pz 00).out
section
variable{prog:Program}{w:World}{A:Around}{E:Value->Shared->Prop}{s:Shared}
def Eo(hx:eT s.heap x p)(hy:eT s.heap y q)(h:C (ltP p q) s):wpAny (model prog w) A (keyLt' (tuples' true) x y) C E s:=by
 obtain⟨a,t,u,rfl,o,ho,-,n,hd⟩:=hx;obtain⟨b,t',u',rfl,o',ho',-,n',hd'⟩:=hy;show kat_lt ho hd ho' hd' ?_;unfold ltP at h;show kat_cons (wpAny_eqBool_int (kat_go (λe=>kat_yes (kat_cons (wpAny_eqBool_int (kat_go (λe2=>kat_yes (kat_nil ?_)) λe2=>kat_no (kat_one _ _ (lt_int ?_)))))) λe=>kat_no (oneLt_int ?_)))
 ·let e:=Og.mp e
  rwa[Nu 00]at h
 ·let e:=Og.mp e
  rwa[show decide _=decide (p.2<q.2)from Pb.mpr 00]at h
 ·simp at e
  rwa[show decide _=decide (p.1<q.1)from Pb.mpr 00]at h
def ve{ps:List (Int×Int)}{Q:SortKind->Shared->Prop}(p:1<=b.length)(l:Paired (eT s.heap) b ps)(h:Q (tuples' true) s):wpAny (model prog w) A (keyKind' b.toArray) Q E s:=by
 obtain⟨c,y,C,q⟩:∃c,KatTups s.heap b c/\c.length=b.length/\∀v∈c,∃i t,v=.int i t:=by
  clear p h
  induction l with
  |nil=>show⟨[],.nil,rfl,λv hv=>by ext hv⟩|cons r _ e =>
   let⟨c,j,x,d⟩:=e;show X_32 (λa t u R3=>X_13 λo m f=>X_11 λn g=> ?_) r;subst R3;exists _,KatTups.cons m f g rfl j,by simp[x],λv hv=> ?_
   rcases NH.mp hv with z|z
   ·exists _,_,z
   ·show d v z
 show kat_kind (T:=.type "int") y 00 (λv hv=> ?_) 02 h;let⟨i,t,rfl⟩:=q v hv;show .now
theorem yd:∀{a:List Value},a.length<2->(a.toArray.zip a.toArray).map (·.2)=a.toArray
 |[],_=>by simp|[_],_=>by simp|_::_::_,h=>absurd h 03
theorem vF:∀{a:List Value},a.length<2->(List.range a.length).map (λi=>a.getD i Value.none)=a
 |[],_=>rfl|[_],_=>rfl|_::_::_,h=>absurd h 03
def tR{P:PySem.Fin->Shared->Prop}(e:s.heap.get? a=some (seqObj "list" b.toArray n))(j:b.length<2)
  (h:P (.done (.ret .none)) {s with heap:=sortedHeap s.heap a b b.toArray}):wpAny (model prog w) A (Builtin.«list.sort» ⟨[.ref a],[]⟩) P E s:=by
 rw[list_sort_plain];show M1 (listItems_at e rfl (M1 (listUpdate_at e rfl ?_ (by rw[NM,N4];lia) (No _))));obtain⟨d,i⟩:∃d,(s.heap.update a (Obj.mapSeq λ_=>(#[]:Array Value))).get? a=some (seqObj "list" #[] d):=⟨_,get?_update_seq e λ_=> #[]⟩;show M1 (seqEpoch_at i rfl (M1 (wpAny_newTuple ?_ (by change b.length<=_;rw[N4];lia))));show M1 (wpAny_newList ?_ (No _));show OP ?_;let g:(((s.heap.update a (Obj.mapSeq λ_=>(#[]:Array Value))).push (seqObj "tuple" b.toArray 0)).push (seqObj "list" #[] 0)).get? a=some (seqObj "list" #[] d):=M3 _ (M3 _ i);dsimp only;let f:b.toArray.size<2:=by rwa[NM]
 rw[M9 f,M9 f];show M1 (NK ?_);show M1 (NK ?_);let c:(arrOf (SortSt.mk' general' (b.toArray.zip b.toArray) #[] 7 none)).map (·.2)=b.toArray:=by show yd j
 rw[c];show M1 (seqEpoch_at g rfl ?_);show M1 (listUpdate_at g rfl ?_ (No _) (by rw[NM,N4];lia));simp only[bne_self_eq_false,Po,Ps];show NK h
theorem kT{F:Value->Int×Int->Prop}:∀{a:List Value}{b:List (Int×Int)},Paired F a b->∀i,i<a.length->F (a.getD i Value.none) (b.getD i (0,0))
 |_,_,.cons r _,0,_=>r|_,_,.cons _ t,i+1,h=>kT t i (by simpa using h)
def pT(hl:s.heap.IsList l vs.toArray)(hp:Paired (eT s.heap) vs ps)(hn:vs.length=ps.length)(h64:vs.length<64)
  (h:Q (.ref (s.heap.objs.size+1)) {s with heap:=sortedAll s.heap vs ((AB ps).map λi=>vs.getD i Value.none).toArray}) :
  wpAny (model prog w) A (call (.builtin "sorted") [.ref l]) Q E s:=by
 show Calls.call_function_entry kind_sorted plain_sorted entry_sorted (args_sorted1 _) ?_;show M1 (NK ?_);show M1 (collect_list hl ?_ (by rw[N4];lia));show M1 (wpAny_newList ?_ (by rw[N4];lia));let hsz:((s.heap.push (seqObj "list" #[] 0)).update s.heap.objs.size (Obj.mapSeq (·++vs.toArray))).objs.size=s.heap.objs.size+1:=by rw[Heap.size_update,size_push']
 let hoL:(((s.heap.push (seqObj "list" #[] 0)).update s.heap.objs.size (Obj.mapSeq (·++vs.toArray))).push (seqObj "list" vs.toArray 0)).get? (s.heap.objs.size+1)=some (seqObj "list" vs.toArray 0):=by rw[<- hsz];show NR _ rfl
 let keep:∀b o,s.heap.get? b=some o->(((s.heap.push (seqObj "list" #[] 0)).update s.heap.objs.size (Obj.mapSeq (·++vs.toArray))).push (seqObj "list" vs.toArray 0)).get? b=some o:=λb o e=>by show M3 _ ?_;rw[Nt _ _ (Oi (NQ e))];show M3 _ e
 rw[hsz]
 by_cases h2:vs.length<2
 ·show M1 (OP (Ob slot_list_sort ⟨_,hoL,rfl⟩ entry_list_sort (tR hoL h2 (Y_12 _ rfl ?_)) (args_list_sort _)))
  unfold AB at h;rw[<- hn,M9 h2,vF h2]at h;show NK (Y_12 _ rfl h)
 ·let hp2:∀s1:Shared,(∀b o,b≠s.heap.objs.size+1->(((s.heap.push (seqObj "list" #[] 0)).update s.heap.objs.size (Obj.mapSeq (·++vs.toArray))).push (seqObj "list" vs.toArray 0)).get? b=some o->s1.heap.get? b=some o)->∀{v:Value}{q:Int×Int},eT s.heap v q->eT s1.heap v q:=λs1 k v q x =>
   x.keep λb o e=>k b o (Na (OG (NQ e))) (keep b o e)
  show M1 (OP (Ob slot_list_sort ⟨_,hoL,rfl⟩ entry_list_sort (Er (κ:=tuples' true) (f:=λi j=>ltP (ps.getD i (0,0)) (ps.getD j (0,0))) hoL 00 h64 (λs1 Q1 k q1=> ?_) (λs1 i j C k hi hj c=> ?_) (Y_12 _ rfl ?_)) (args_list_sort _)))
  ·show ve 00 (L2.Paired.mapP hp λ_ _ x=>hp2 s1 k x) q1
  ·show Eo (hp2 s1 k (kT hp i hi)) (hp2 s1 k (kT hp j hj)) c
  ·unfold AB at h
   rw[<- hn,NJ h2]at h;show NK (Y_12 _ rfl h)
end
end SW
namespace L2
open PySem PySem.Spec PyProof.Rows
inductive J4(K:W.Frag)(H:Hp):List V->List (Int×Int)->Prop
 | nil:J4 K H [] []
 | cons {a:Addr} {q:Int×Int} {us:List V} {ps:List (Int×Int)} (h:dg K H a [.int q.1,.int q.2]) (t:J4 K H us ps):J4 K H (.ref a::us) (q::ps)
open H
def J4.len{K:W.Frag}{us:List V}(h:J4 K H us a):us.length=a.length:=by
 induction h with
 |nil=>rfl|cons _ _ b=>simp[b]
theorem aQ.pick{us:List V}{b:List Value}(r:aQ us b):∀{a:List Nat},(∀j∈a,j<us.length)->aQ (a.map λi=>us.getD i .non) (a.map λi=>b.getD i Value.none)
 |[],_=>.nil|j::a,h=>by let c:=h j M7;let⟨v,e,d⟩:=r.get (M5 c);show .cons ?_ (aQ.pick r λi hi=>h i (M4 _ hi));dsimp only;rwa[M6,M5 c,M6,e]
section
variable{X:Cx}
def kF:bQ X (.builtin "sorted") (λxs H Q=>∃(p:Addr)(us:List V)(ps:List (Int×Int)),xs=[.ref p]/\bG X.K H p us/\J4 X.K H us ps/\us.length<64 /\ ∀a,H a=none->Q (.ref a) (upd H a (.lst ((SW.AB ps).map λi=>us.getD i .non)))):=by
 intro pins s σ H xs us Q I r h;let⟨p,ws,ps,rfl,hq,hp,h64,q⟩:=h;let⟨u,rfl,rx⟩:=vals1 r;ext rx;let⟨its,r',pl,hz⟩:=I.list hq;let hlen:=r'.length;let pr:Paired (SW.eT s.heap) its ps:=by
  clear q h64 hq pl hz hlen
  induction hp generalizing its with
  |nil =>ext r';show .nil
  |cons ht _ ih =>
   cases r' with
   |cons rv t =>show .cons ?_ (ih _ t);ext rv;let⟨ys,ry,tp,_⟩:=I.tuple ht;obtain⟨y1,y2,rfl,⟨t1,rfl⟩,e2⟩:=vals2 ry;let⟨t2,rfl⟩:=e2;exists _,t1,t2,rfl,tp
 let hn:=hp.len;let pm:=SW.mP ps;rw[<- hn]at pm;show SW.pT pl.isList pr 00 00 ?_;let⟨c,hc⟩:=sortedAll_at s.heap its ((SW.AB ps).map λi=>its.getD i Value.none).toArray;exists .ref (s.heap.objs.size+1),_,I.laid (λb o z=>sortedAll_old z) (PY _) ?_,rfl,q _ (I.hok.fresh (PY _));show⟨?_,(SW.AB ps).map λi=>its.getD i Value.none,c,aQ.pick r' λj hj=>Nm.mp (pm.mem_iff.mp hj),by simpa [seqObj]using hc⟩;rw[M0,pm.length_eq,NT,N4];lia
end
end L2
namespace SR
open PySem PyProof.Rows
section
variable{prog:Program}{w:World}{A:Around}{E:Value->Shared->Prop}{s:Shared}
open H
theorem Kr{t:Tok}(b:i.natAbs.log2<1920)(h:∀u a,Q (.str (Str.ofString (toString i)) u) {s with toks:=a}):wpAny (model prog w) A (call (.type "str") [.int i t]) Q E s :=
 callType_new F.called_str 02 (F.typeCall_str_1 _) (F.newCall_str_1 _) (λob=>F.args_object_init_2 ob _) F.entry_str_new
  (meets_str_new (S:=λA' R s' =>∀u a,R (.ok (.ret (.str (Str.ofString (toString i)) u))) {s' with toks:=a}) λprog' w' A' R s' q=>W.KPc.strOf_int b (q _ _))
  λu a=>⟨QH _ _ _,h u a⟩
theorem HS{t:Tok}(h:∀u a,Q (.str z u) {s with toks:=a}):wpAny (model prog w) A (call (.type "str") [.str z t]) Q E s :=
 callType_new F.called_str 02 (F.typeCall_str_1 _) (F.newCall_str_1 _) (λob=>F.args_object_init_2 ob _) F.entry_str_new
  (meets_str_new (S:=λA' R s' =>∀u a,R (.ok (.ret (.str z u))) {s' with toks:=a}) λprog' w' A' R s' q=>NK (q t s'.toks))
  λu a=>⟨QH _ _ _,h u a⟩
end
end SR
set_option maxHeartbeats 800000
namespace SR
open PySem PyProof.Rows
end SR
namespace L2
open PySem PySem.Spec PyProof.Rows
end L2
set_option maxHeartbeats 4000000
namespace L2
open PySem PySem.Spec PyProof.Rows
end L2
namespace L2
open PySem PySem.Spec PyProof.Rows PySem.W
section
variable{X:Cx}
open H
def E3{b:List (af×V)}(r:KV b c):aQ (b.map (·.2)) (c.map (·.2)):=by
 induction r with
 |nil=>show .nil|cons a t d=>show .cons a.2 d
def m7(hc:X.calm=true):bQ X (.type "list") (λxs H Q=>∃(p a:Addr)(kvs:List (af×V)),xs=[.ref p]/\H p=some (nF p a)/\H a=some (.dK kvs)/\kvs.length<=sizeLine/\∀b,H b=none->Q (.ref b) (upd H b (.lst (kvs.map (·.2))))):=by
 intro pins s σ H xs us Q I r h;let⟨p,a,kvs,rfl,hp,ha,hz,q⟩:=h;let⟨u,rfl,rx⟩:=vals1 r;ext rx;show X_03 (λz hd=>X_12 λvs rel dd=> ?_) (mi I.hok ha);let⟨ep,da⟩:=dd.dictAt;let⟨hv,_⟩:=(show aw X.prog X.w H s.heap p (nF p a)from I.hok p _ hp);let hl:=rel.length;show kdl_call (kdl_values) (I.ok.hd hc) ⟨hv,da⟩ 00 λh' tk acc' c' hk hD hacc=> ?_;let e:acc'.toList=vs.map (·.2):=by
  show Ow λi=> ?_;rw[NG]
  by_cases hi:i<acc'.size
  ·let⟨k,e⟩:=hacc.2 i acc'[i] (by simp[hi])
   rw[e,OW,Array.getElem?_eq_getElem hi];rfl
  ·have:=hacc.1
   rw[Nl (by rw[Ng];lia),Nl 00];rfl
 exists .ref s.heap.objs.size,_,I.laid (o:=.lst (kvs.map (·.2))) (λb o z=>hk b o z) (NB _) ⟨by rwa[M0],vs.map (·.2),c',E3 rel,?_⟩,rfl,q _ (I.hok.fresh (NB _));rw[<- e,hD]
end
end L2
set_option genInjectivity false
namespace IR
open PySem
abbrev af:=L2.af
inductive PV where
 | non|bl (b:Bool)|int (i:Int)|str (z:Str)|lst (xs:List PV)|tup (xs:List PV)|dK (ks:List af) (vs:List PV)|dT (ks:List (List af)) (vs:List PV)
instance:Inhabited PV:=⟨.non⟩
mutual
noncomputable def imm:PV->Bool
 | .non=>true| .bl _=>true| .int _=>true| .str _=>true
 | .lst _=>false
 | .tup xs=>imms xs
 | .dK _ _=>false| .dT _ _=>false
noncomputable def imms:List PV->Bool
 | []=>true
 | x::xs=>imm x&&imms xs
end
inductive Bf where
 | len|int|str|list|tuple|sorted|min|max|sum|abs|all|any|lrange|lrange2|isin (t:String)|sumv|sset|lset|trev|lvals|maxl
inductive Bm where
 | join|split|count|index|get|jrev
mutual
inductive IE where
 | con (v:PV)|var (i:Nat)|bin (op:Operator) (a b:IE)|neg (a:IE)|cmp (op:CmpOp) (a b:IE)|chn (o1 o2:CmpOp) (a b c:IE)
 | and (a b:IE)|or (a b:IE)|not (a:IE)|ite (c:IC) (a b:IE)
 | call (f:Nat) (es:DV)|bf (f:Bf) (es:DV)|mth (m:Bm) (o:IE) (es:DV)
 | lst (es:DV)|tup (es:DV)|dnew|dlit (k:af) (e:IE)|ix (a i:IE)|sl (a:IE) (lo hi:IO)|rev (a:IE)
 | lc (elt:IE) (src:IT) (ifs:Gn) (caps:List Nat)|lc2 (elt:IE) (src:IT) (ifs:Gn) (caps:List Nat)|lcs (a:IE)|never
inductive DV where
 | nil|cons (e:IE) (es:DV)
inductive IO where
 | no|yes (e:IE)
inductive IC where
 | val (e:IE)|not (c:IC)|and (c d:IC)|or (c d:IC)
inductive Gn where
 | no|yes (c:IC)
inductive IT where
 | seq (e:IE)|rng (es:DV)|enum (a:IE)|never
end
mutual
inductive IS where
 | asg (i:Nat) (o:Bool) (cap:List Nat) (e:IE)|ret (cap:List Nat) (e:IE)|retN|ife (c:IC) (a b:uu)
 | forr (is:List Nat) (one:Bool) (cap:List Nat) (src:IT) (body:uu)|whil (c:IC) (body:uu)|pass|brk|cont
 | app (i:Nat) (cap:List Nat) (e:IE)|seti (i:Nat) (cap:List Nat) (k e:IE)|drop (e:IE)|aug (i:Nat) (op:Operator) (e:IE)|hand (m:Nat) (g:List PV->Option PV)|rais (x:Str)|never
inductive uu where
 | nil|cons (s:IS) (ss:uu)
end
inductive Bd where
 | lst|dK (ks:List af)|dT (ks:List (List af))
def Bd.pv:Bd->List PV->PV
 | .lst,xs=>.lst xs| .dK ks,xs=>.dK ks xs| .dT ks,xs=>.dT ks xs
section
variable{κ α:Type}[DecidableEq κ]
def lE:List κ->List α->κ->Option α
 |k' ::ks,x::xs,k=>if k' =k then some x else lE ks xs k|_,_,_=>none
def bt:List κ->List α->κ->α->List α
 |k' ::ks,x::xs,k,y=>(if k' =k then y else x)::bt ks xs k y|_,xs,_,_=>xs
def putL(b:List κ)(a:List α)(k:κ)(y:α):List α:=if k∈b then bt b a k y else a++[y]
def jb(a:List κ)(k:κ):List κ:=if k∈a then a else a++[k]
end
def iG:PV->Option af
 | .int i=>some (.inl i)| .str z=>some (.inr z)|_=>none
def CJ:List PV->Option (List af)
 |[]=>some []|x::xs=>(iG x).bind λk=>(CJ xs).map (k::·)
inductive TV where
 | un|frz (v:PV) (n:Bool)|own (xs:List PV) (n:Bool)|owd (b:Bd) (xs:List PV) (n:Bool)
def TV.ob:TV->Option (Bd×List PV×Bool)
 | .own a n=>some (.lst,a,n)| .owd b a n=>some (b,a,n)|_=>none
abbrev En:=List TV
def TV.valD:TV->PV
 | .frz v _=>v|_=>.non
inductive RV where
 | frz (v:PV) (n:Bool)|bor (v:PV)|own (xs:List PV) (n:Bool)|owd (b:Bd) (xs:List PV) (n:Bool)
def RV.val:RV->PV
 | .frz v _=>v| .bor v=>v| .own a _=>.lst a| .owd b a _=>b.pv a
abbrev sc(v:PV):RV:=.frz v true
def RV.keep:RV->Option (PV×Bool)
 | .frz v n=>some (v,n)| .bor v=>if imm v then some (v,true)else none| .own a n=>some (.lst a,n)| .owd b a n=>some (b.pv a,n)
def jq(v:PV):RV:=if imm v then .frz v true else .bor v
def RV.its:RV->Option (List PV×Bool)
 | .frz (.lst a) n=>some (a,n)| .frz (.tup a) n=>some (a,n)| .own a n=>some (a,n)| .bor (.lst a)=>if imms a then some (a,true)else none| .bor (.tup a)=>if imms a then some (a,true)else none|_=>none
abbrev LN:Nat:=16777216
open L2 (qz cH)
def signs(z:Str):List PV:=z.cps.toList.map λc=>.str ⟨#[c]⟩
def iQ(a:List PV)(n:Bool):Option RV:=if a.length<=LN then some (.own a n)else none
def yy(a:List PV)(n:Bool):Option RV:=if a.length<=LN then some (.frz (.tup a) n)else none
def wE(a b:RV):Option RV :=
 match a.val,b.val with
 | .int i,.int j=>some (sc (.int (i+j)))| .str x,.str y=>if x.length+y.length<=LN then some (sc (.str (x++y)))else none| .lst _,.lst _=>match a.its,b.its with
  |some (xs,n),some (ys,m)=>iQ (xs++ys) (n&&m)|_,_=>none
 |_,_=>none
def wC(a b:RV):Option RV :=
 match a.val,b.val with
 | .int i,.int j=>some (sc (.int (i-j)))|_,_=>none
def qm(a b:RV):Option RV :=
 match a.val,b.val with
 | .int i,.int j=>if(-(2^64)<i/\i<2^64)\/(-(2^64)<j/\j<2^64)then some (sc (.int (i*j)))else if i.natAbs<2^2000/\j.natAbs<2^2000 then some (sc (.int (i*j)))else none| .lst _,.int k=>match a with
  | .own c n=>if 0<=k/\k<=1000000/\c.length*k.toNat<=LN then some (.own (List.replicate k.toNat c).flatten n)else none|_=>none
 |_,_=>none
def gg(a b:RV):Option RV :=
 match a.val,b.val with
 | .int i,.int j=>if 0<j/\j<2^200 then some (sc (.int (i/j)))else none|_,_=>none
def wD(a b:RV):Option RV :=
 match a.val,b.val with
 | .int i,.int j=>if 0<j then some (sc (.int (i%j)))else none|_,_=>none
def eM(c:Operator)(a b:RV):Option RV:=match c with
 | .Add=>wE a b| .Sub=>wC a b| .Mult=>qm a b| .FloorDiv=>gg a b| .Mod=>wD a b|_=>none
def uK:PV->Bool
 | .non=>true| .bl _=>true| .int _=>true| .str _=>true|_=>false
def eqs:PV->PV->Option Bool
 | .int i,.int j=>some (decide (i=j))| .str i,.str j=>some (decide (i=j))| .bl i,.bl j=>some (decide (i=j))| .non,.non=>some true| .non,.int _=>some false| .non,.bl _=>some false| .non,.str _=>some false| .int _,.non=>some false| .bl _,.non=>some false| .str _,.non=>some false
 | .int _,.str _=>some false| .str _,.int _=>some false| .bl _,.str _=>some false| .str _,.bl _=>some false
 |_,_=>none
def Ci:PV->PV->Bool
 | .int i,.int j=>decide (i=j)| .str i,.str j=>decide (i=j)| .bl i,.bl j=>decide (i=j)| .bl b,.int j=>decide ((if b then 1 else 0:Int)=j)| .int j,.bl b=>decide (j=(if b then 1 else 0:Int))| .non,.non=>true|_,_=>false
mutual
noncomputable def uS:PV->PyData
 | .non=>.none
 | .bl b=>.bool b
 | .int i=>.int i
 | .str z=>.str z
 | .lst xs=>.list (fi xs)
 | .tup xs=>.tuple (fi xs)
 | .dK _ _=>.dict []
 | .dT _ _=>.dict []
noncomputable def fi:List PV->List PyData
 | []=>[]
 | x::xs=>uS x::fi xs
end
mutual
noncomputable def o0:PV->PV->Bool
 | .lst xs,.lst ys=>me xs ys
 | .tup xs,.tup ys=>me xs ys
 | a,b=>Ci a b
noncomputable def me:List PV->List PV->Bool
 | [],[]=>true
 | x::xs,y::ys=>o0 x y&&me xs ys
 | [],_::_=>false
 | _::_,[]=>false
end
def nJ:Nat->PV->Bool
 |_,.non=>true|_,.bl _=>true|_,.int _=>true|_,.str z=>PyData.strOk z|0,.lst _=>false|0,.tup _=>false|n+1,.lst xs=>xs.all (nJ n)|n+1,.tup xs=>xs.all (nJ n)|_,.dK _ _=>false|_,.dT _ _=>false
def Gd(x y:PV):Option Bool:=match eqs x y with
 |some b=>some b|none=>if nJ 12 x&&nJ 12 y then some (o0 x y)else none
def xR(x:PV)(a:List PV):Option Bool :=
 if uK x/\a.all uK then some (a.any λy=>Ci y x)else if nJ 12 x&&a.all (nJ 12)then some (a.any λy=>o0 y x)else none
def Cy(a b:PV):Option Bool :=
 match a,b with
 | .int i,.int j=>some (decide (i<j))|_,_=>none
def v4(a b:PV):Option Bool :=
 match a,b with
 | .int i,.int j=>some (decide (i<=j))|_,_=>none
def C3(a b:PV):Option Bool :=
 match a,b with
 | .int i,.int j=>some (decide (j<i))|_,_=>none
def v5(a b:PV):Option Bool :=
 match a,b with
 | .int i,.int j=>some (decide (j<=i))|_,_=>none
def Cz(a b:PV):Option Bool :=
 match a,b with
 | .non,.non=>some true|x,.non=>some false|_,_=>none
def my(a b:PV):Option Bool :=
 match a,b with
 | .non,.non=>some false|x,.non=>some true|_,_=>none
def C2(a b:PV):Option Bool :=
 match a,b with
 |x,.lst ys=>xR x ys|x,.tup ys=>xR x ys|_,_=>none
def mr(a b:PV):Option Bool :=
 match a,b with
 |x,.lst ys=>(xR x ys).map (!·)|_,_=>none
def bB(c:CmpOp)(a b:PV):Option Bool:=match c with
 | .Lt=>Cy a b| .LtE=>v4 a b| .Gt=>C3 a b| .GtE=>v5 a b| .Eq=>Gd a b| .NotEq=>(Gd a b).map (!·)| .Is=>Cz a b| .IsNot=>my a b| .In=>C2 a b| .NotIn=>mr a b
def nu:PV->Option Bool
 | .non=>some false| .bl b=>some b| .int i=>some (i !=0)| .str z=>if z.length<=LN then some ((z.length:Int) !=0)else none| .lst a=>some !a.isEmpty| .tup a=>some !a.isEmpty| .dK c _=>some !c.isEmpty| .dT _ _=>none
def df:PV->Option Nat
 | .str z=>if z.length<=LN then some z.length else none| .lst a=>some a.length| .tup a=>some a.length| .dK b _=>some b.length|_=>none
def fJ(t:String):PV->Option Bool
 | .non=>if t="int"\/t="str"\/t="list"\/t="tuple"\/t="bool" then some false else none| .bl _=>if t="int"\/t="bool" then some true else if t="str"\/t="list"\/t="tuple" then some false else none| .int _=>if t="int" then some true else if t="bool"\/t="str"\/t="list"\/t="tuple" then some false else none| .str _=>if t="str" then some true else if t="bool"\/t="int"\/t="list"\/t="tuple" then some false else none| .lst _=>if t="list" then some true else if t="bool"\/t="int"\/t="str"\/t="tuple" then some false else none| .tup _=>if t="tuple" then some true else if t="bool"\/t="int"\/t="str"\/t="list" then some false else none| .dK _ _=>if t="bool"\/t="int"\/t="str"\/t="list"\/t="tuple" then some false else none| .dT _ _=>none
def kI:List PV->Option (List Bool)
 |[]=>some []| .bl b::r=>(kI r).map (b::·)|_::_=>none
def bL:List PV->Option (List Str)
 |[]=>some []| .str z::r=>(bL r).map (z::·)|_::_=>none
def aP:List PV->Option (List Int)
 |[]=>some []| .int i::r=>(aP r).map (i::·)|_::_=>none
def bP(a:Str):List Str->Str
 |[]=>⟨#[]⟩|[x]=>x|x::y::r=>x++a++bP a (y::r)
def lrng(n:Nat):List PV:=(List.range n).map λi=>.int (i:Nat)
def BN:PV->Option (Int×Int)
 | .tup c=>(aP c).bind λns=>match ns with
  |[a,b]=>some (a,b)|_=>none
 |_=>none
def jf:List PV->Option (List (Int×Int))
 |[]=>some []|x::r=>(BN x).bind λq=>(jf r).map (q::·)
def mC(q:Int×Int):PV:=.tup [.int q.1,.int q.2]
def eY(a:List (Int×Int)):List (Int×Int):=(SW.AB a).map λi=>a.getD i (0,0)
def r9(a:List PV):Option RV:=(jf a).bind λps=>if ps.length<64 then some (.own ((eY ps).map mC) true)else none
def fZ(a:List PV):Option RV:=match aP a with
 |some b=>if b.length<64 then some (.own ((L2.sortI b).map PV.int) true)else none|none=>r9 a
def kR:PV->Option (List Int)
 | .lst a=>(aP a).bind λns=>if ns.all (λn=>decide (0<=n)&&decide (n<8))=true then some ns else none|_=>none
def revT(a:RV):Option RV:=match a.val with
 | .tup _=>(match a.its with
  |some (xs,n)=>if xs.isEmpty then none else some (.frz (.tup xs.reverse) n)|none=>none)
 |_=>none
def Am:PV->Option RV
 | .int i=>if i.natAbs.log2<1920 then some (sc (.str (Str.ofString (toString i))))else none| .str z=>some (sc (.str z))|_=>none
def GX:PV->Option RV
 | .dK a b=>if a.length<=LN then(aP b).map λns=>.own (ns.map PV.int) true else none|_=>none
def iJ(f:Bf)(e:List RV):Option RV :=
 match f,e with
 | .len,[a]=>(df a.val).map λn=>sc (.int (n:Nat))| .int,[a]=>match a.val with
  | .int i=>some (sc (.int i))| .bl b=>some (sc (.int (if b then 1 else 0)))| .str z=>if z.length<=640 then(intText? z).map λi=>sc (.int i)else none|_=>none
 | .list,[a]=>match a.its with
  |some (c,n)=>some (.own c n)|none=>none
 | .tuple,[a]=>match a.its with
  |some (c,n)=>some (.frz (.tup c) n)|none=>none
 | .all,[a]=>match a.val with
  | .lst c=>(kI c).map λbs=>sc (.bl (bs.all id))|_=>none
 | .sum,[a]=>match a.val with
  | .lst c=>(aP c).map λns=>sc (.int ns.sum)|_=>none
 | .sorted,[a]=>match a.val with
  | .lst c=>fZ c|_=>none
 | .sumv,[a]=>match a.val with
  | .dK _ d=>(aP d).map λns=>sc (.int ns.sum)|_=>none
 | .sset,[a]=>(kR a.val).map λns=>.own ((L2.ff ns).map PV.int) true| .lset,[a]=>(kR a.val).map λns=>sc (.int ((L2.ff ns).length:Nat))| .trev,[a]=>revT a| .lvals,[a]=>GX a.val| .maxl,[a]=>match a.val with
  | .lst c=>(aP c).bind λns=>ns.max?.map λm=>sc (.int m)|_=>none
 | .str,[a]=>Am a.val| .isin t,[a]=>(fJ t a.val).map λb=>sc (.bl b)| .min,[a,b]=>match a.val,b.val with
  | .int i,.int j=>some (sc (.int (if j<i then j else i)))|_,_=>none
 | .max,[a,b]=>match a.val,b.val with
  | .int i,.int j=>some (sc (.int (if j>i then j else i)))|_,_=>none
 | .lrange,[a]=>match a.val with
  | .int i=>if 0<=i/\i<=1000 then some (.own (lrng i.toNat) true)else none|_=>none
 | .lrange2,[a,b]=>match a.val,b.val with
  | .int i,.int j=>if -1000<=i/\j<=1000/\i<=j then some (.own ((List.range (j-i).toNat).map λk=>.int (i+(k:Nat))) true)else none|_,_=>none
 |_,_=>none
def Lg(z y:Str):Option Nat:=(Builtin.Str.occurrences z y 0 z.length 1).head?
def du(m:Bm)(o:RV)(c:List RV):Option RV :=
 match m,o.val,c with
 | .join,.str sep,[a]=>match a.val with
  | .lst b=>(bL b).bind λys=>if(ys.map (·.length)).sum+ys.length*sep.length<=LN then some (sc (.str (bP sep ys)))else none| .tup b=>(bL b).bind λys=>if(ys.map (·.length)).sum+ys.length*sep.length<=LN then some (sc (.str (bP sep ys)))else none|_=>none
 | .jrev,.str sep,[a]=>match a.val with
  | .str z=>if sep.cps= #[]/\0<z.length/\z.length<=LN then some (sc (.str ⟨z.cps.toList.reverse.toArray⟩))else none|_=>none
 | .count,.str z,[a]=>match a.val with
  | .str y=>some (sc (.int (Txt.count z y)))|_=>none
 | .count,.lst b,[a]=>match a.val with
  | .str y=>(bL b).map λys=>sc (.int (ys.countP (·==y):Nat))|_=>none
 | .index,.lst b,[a]=>match a.val with
  | .str y=>(bL b).bind λys=>(ys.findIdx? (·==y)).map λj=>sc (.int (j:Nat))|_=>none
 | .split,.str z,[a]=>match a.val with
  | .str y=>if(y.length==0)=false/\z.length<=1000000 then some (.own ((Txt.split z y).map PV.str) true)else none|_=>none
 | .index,.str z,[a]=>match a.val with
  | .str y=>(Lg z y).map λj=>sc (.int (j:Nat))|_=>none
 | .get,.dK ks vs,[a,d]=>(iG a.val).bind λk=>match lE ks vs k with
  |some e=>(match o with
   | .frz _ n=>some (.frz e (n||imm e))
   | .bor _=>some (jq e)|_=>none)
  |none=>some d
 |_,_,_=>none
def index(a i:RV):Option RV :=
 match a,i.val with
 | .frz (.lst xs) n,.int k=>(cH xs k).map λe=>.frz e (n||imm e)
 | .frz (.tup xs) n,.int k=>(cH xs k).map λe=>.frz e (n||imm e)
 | .own xs n,.int k=>(cH xs k).map λe=>.frz e (n||imm e)
 | .bor (.lst xs),.int k=>(cH xs k).map jq| .bor (.tup xs),.int k=>(cH xs k).map jq| .frz (.str z) _,.int k=>if z.length<=LN then(cH z.cps.toList k).map λc=>sc (.str ⟨#[c]⟩)else none| .frz (.dK ks vs) n,y=>(iG y).bind λk=>(lE ks vs k).map λe=>.frz e (n||imm e)
 |_,_=>none
def cut{b:Type}(a:List b)(c d:Option Int):List b:=(a.drop (HT.nH a.length 0 c)).take (HT.nH a.length a.length d-HT.nH a.length 0 c)
def slice(a:RV)(b c:Option Int):Option RV :=
 match a.val with
 | .lst _=>match a.its with
  |some (xs,n)=>some (.own (cut xs b c) (n||imms xs))
  |none=>none
 |_=>none
def yk(a:RV):Option RV :=
 match a.val with
 | .str z=>if z.length<=LN then some (sc (.str ⟨z.cps.toList.reverse.toArray⟩))else none| .lst _=>match a.its with
  |some (xs,n)=>some (.own xs.reverse n)|none=>none
 |_=>none
def keeps:List RV->Option (List PV×Bool)
 |[]=>some ([],true)|r::rs=>r.keep.bind λ(v,n)=>(keeps rs).map λ(vs,m)=>(v::vs,n&&m)
def lI(a:En)(i:Nat):Option RV :=
 match a[i]? with
 |some (.frz v n)=>some (.frz v n)|some (.own xs _)=>some (.bor (.lst xs))|some (.owd b xs _)=>some (.bor (b.pv xs))|_=>none
def tw:Option RV->Option (Option Int)
 |none=>some none|some r=>match r.val with
  | .int i=>some (some i)|_=>none
def cG(f:PV->Option (Option (PV×Bool))):List PV->Option (List PV×Bool)
 |[]=>some ([],true)|x::xs=>(f x).bind λr=>(cG f xs).map λ(vs,m)=>match r with
  |none=>(vs,m)|some (v,n)=>(v::vs,n&&m)
def jk:PV->Option (PV×PV)
 | .tup [a,b]=>some (a,b)|_=>none
def fM:List RV->Option (List PV)
 |[a]=>match a.val with
  | .int j=>if -(2^62)<=j/\j<2^62 then some ((List.range j.toNat).map λi=>.int (0+(i:Nat)))else none|_=>none
 |[a,b]=>match a.val,b.val with
  | .int i,.int j=>if -(2^62)<=i/\i<2^62/\ -(2^62)<=j/\j<2^62 then some ((List.range (j-i).toNat).map λk=>.int (i+(k:Nat)))else none|_,_=>none
 |[a,b,c]=>match a.val,b.val,c.val with
  | .int i,.int j,.int k=>if k≠0/\k.natAbs<1073741824/\Builtin.Range.small i j k=true then some ((List.range (Builtin.Range.rangeSize i j k).toNat).map λm=>.int (i+(m:Nat)*k))else none|_,_,_=>none
 |_=>none
def E8:PV->Option Int
 | .int i=>some i|_=>none
def lB:PV->Option Bool
 | .bl b=>some b|_=>none
def lz(x:RV):Option (List PV×Bool×Bool):=match x with
  | .frz (.str z) _=>some (signs z,true,false)| .bor (.lst xs)=>if imms xs then some (xs,true,true)else none| .bor (.tup xs)=>if imms xs then some (xs,true,true)else none| .bor _=>none|r=>r.its.map λ(xs,n)=>(xs,n,false)
def eI(i:Nat)(x:PV):PV:=.tup [.int (i:Nat),x]
def LY:RV->Option (List PV×Bool)
 | .frz (.lst a) n=>some (a,n)| .own a n=>some (a,n)|_=>none
def k7(x:RV):Option (List PV×Bool) :=
 match x with
 | .frz (.str z) _=>some (List.zipWith eI (List.range z.length) (signs z),true)| .frz (.tup xs) n=>some (List.zipWith eI (List.range xs.length) xs,n)|x=>match LY x with
  |some (xs,n)=>some (List.zipWith eI (List.range xs.length) xs,n)|none=>none
def Db:List af->List PV->Option (List (Int×Int))
 |[],[]=>some []| .inl k::ks,.int v::vs=>(Db ks vs).map ((k,v)::·)|_,_=>none
def zC:RV->Option RV
 | .frz (.dK ks vs) _=>if ks.length<=LN then(Db ks vs).map λqs=>.own (qs.map λq=>.tup [.int q.2,.int q.1]) true else none|_=>none
section
variable(cd:Nat->List PV->Option PV)
def told:PV->RV
 | .lst a=>.own a true|v=>.frz v true
mutual
noncomputable def aX:IE->En->Option RV
 | .con v,_=>some (sc v)
 | .var i,τ=>lI τ i
 | .bin op a b,τ=>(aX a τ).bind fun x=>(aX b τ).bind fun y=>eM op x y
 | .neg a,τ=>(aX a τ).bind fun x=>(E8 x.val).map fun i=>sc (.int (-i))
 | .cmp op a b,τ=>(aX a τ).bind fun x=>(aX b τ).bind fun y=>(bB op x.val y.val).map fun r=>sc (.bl r)
 | .chn o1 o2 a b c,τ=>(aX a τ).bind fun x=>(aX b τ).bind fun y=>(bB o1 x.val y.val).bind fun r=>if r then(aX c τ).bind fun z=>(bB o2 y.val z.val).map fun r=>sc (.bl r)else some (sc (.bl false))
 | .and a b,τ=>(aX a τ).bind fun x=>(lB x.val).bind fun t=>if t then aX b τ else some (sc (.bl false))
 | .or a b,τ=>(aX a τ).bind fun x=>(lB x.val).bind fun t=>if t then some (sc (.bl true))else aX b τ
 | .not a,τ=>(aX a τ).bind fun x=>(lB x.val).map fun b=>sc (.bl !b)
 | .ite c a b,τ=>(hZ c τ).bind fun r=>if r then aX a τ else aX b τ
 | .call f es,τ=>(eJ es τ).bind fun rs=>(cd f (rs.map RV.val)).map told
 | .bf f es,τ=>(eJ es τ).bind fun rs=>iJ f rs
 | .mth m o es,τ=>(aX o τ).bind fun x=>(eJ es τ).bind fun rs=>du m x rs
 | .lst es,τ=>(eJ es τ).bind fun rs=>(keeps rs).bind fun(vs,n)=>iQ vs n
 | .tup es,τ=>(eJ es τ).bind fun rs=>(keeps rs).bind fun(vs,n)=>yy vs n
 | .dnew,_=>some (.owd (.dK []) [] true)
 | .dlit k e,τ=>(aX e τ).bind fun r=>r.keep.bind fun(v,_)=>if imm v then some (.owd (.dK [k]) [v] true)else none
 | .ix a i,τ=>(aX a τ).bind fun x=>(aX i τ).bind fun y=>index x y
 | .sl a lo hi,τ=>(aX a τ).bind fun x=>(JR lo τ).bind fun l=>(JR hi τ).bind fun h=>(tw l).bind fun l' =>(tw h).bind fun h' =>slice x l' h'
 | .rev a,τ=>(aX a τ).bind fun x=>yk x
 | .lc elt src ifs caps,τ=>(uq src τ).bind fun(xs,n,_)=>if xs.length<=LN then(cG (fun x=>(kb ifs (.frz x (n||imm x)::caps.map fun i=>τ.getD i .un)).bind fun b =>
   if b then(aX elt (.frz x (n||imm x)::caps.map fun i=>τ.getD i .un)).bind fun r=>r.keep.map some else some none) xs).map fun(vs,m)=>.own vs m else none
 | .lc2 elt src ifs caps,τ=>(uq src τ).bind fun(xs,n,_)=>if xs.length<=LN then(cG (fun x=>(jk x).bind fun(a,b)=>(kb ifs (.frz a (n||imm a)::.frz b (n||imm b)::caps.map fun i=>τ.getD i .un)).bind fun t =>
   if t then(aX elt (.frz a (n||imm a)::.frz b (n||imm b)::caps.map fun i=>τ.getD i .un)).bind fun r=>r.keep.map some else some none) xs).map fun(vs,m)=>.own vs m else none
 | .lcs a,τ=>(aX a τ).bind fun x=>zC x
 | .never,_=>none
noncomputable def eJ:DV->En->Option (List RV)
 | .nil,_=>some []
 | .cons e es,τ=>(aX e τ).bind fun x=>(eJ es τ).map (x::·)
noncomputable def JR:IO->En->Option (Option RV)
 | .no,_=>some none
 | .yes e,τ=>(aX e τ).map some
noncomputable def hZ:IC->En->Option Bool
 | .val e,τ=>(aX e τ).bind fun x=>nu x.val
 | .not c,τ=>(hZ c τ).map (!·)
 | .and c d,τ=>(hZ c τ).bind fun r=>if r then hZ d τ else some false
 | .or c d,τ=>(hZ c τ).bind fun r=>if r then some true else hZ d τ
noncomputable def kb:Gn->En->Option Bool
 | .no,_=>some true
 | .yes c,τ=>hZ c τ
noncomputable def uq:IT->En->Option (List PV×Bool×Bool)
 | .seq e,τ=>(aX e τ).bind lz
 | .rng es,τ=>(eJ es τ).bind fun rs=>(fM rs).map fun xs=>(xs,true,false)
 | .enum a,τ=>(aX a τ).bind fun x=>(k7 x).map fun(xs,n)=>(xs,n,false)
 | .never,_=>none
end
inductive Fl where
 | nx (τ:En)|bk (τ:En)|ct (τ:En)|rt (v:PV)
def fY(f:Fl)(k:En->Option Fl):Option Fl:=match f with
 | .nx a=>k a| .bk a=>some (.bk a)| .ct a=>some (.ct a)| .rt v=>some (.rt v)
def qT(a:En)(i:Nat):En :=
 match a[i]? with
 |some (.own xs n)=>a.set i (.frz (.lst xs) n)|some (.owd b xs n)=>a.set i (.frz (b.pv xs) n)|_=>a
def bN(a:List Nat)(b:En):En:=a.foldl qT b
def pf(o:Bool)(i:Nat)(r:RV)(a:En):Option En :=
 match o,r with
 |true,.own xs n=>some (a.set i (.own xs n))|true,.owd b xs n=>some (a.set i (.owd b xs n))|_,r=>r.keep.map λ(v,n)=>a.set i (.frz v n)
def eP(n:Bool):List Nat->List PV->En->Option En
 |[],[],τ=>some τ|i::is,x::xs,τ=>eP n is xs (τ.set i (.frz x (n||imm x)))
 |_,_,_=>none
def pW(b:List Nat)(a n:Bool)(x:PV)(c:En):Option En :=
 if a then eP n b [x] c else match x with
  | .tup d=>eP n b d c|_=>none
def setU(b:List Nat)(n:Bool)(x:PV)(c:En):Option En:=match x with
 | .tup a=>eP n b a c| .lst a=>eP n b a c|_=>none
def mV(b:PV->En->Option En)(body:En->Option Fl):List PV->En->Option Fl
 |[],τ=>some (.nx τ)|x::xs,τ=>(b x τ).bind λτ1=>(body τ1).bind λf=>match f with
  | .nx a=>mV b body xs a| .ct a=>mV b body xs a| .bk a=>some (.nx a)| .rt v=>some (.rt v)
def Da(c:En->Option Bool)(body:En->Option Fl):Nat->En->Option Fl
 |0,_=>none|k+1,τ=>(c τ).bind λb=>if b then(body τ).bind λf=>(match f with
  | .nx a=>Da c body k a| .ct a=>Da c body k a| .bk a=>some (.nx a)| .rt v=>some (.rt v))else some (.nx τ)
variable(fu:Nat)
mutual
noncomputable def gW:IS->En->Option Fl
 | .asg i o cap e,τ=>let τ1:=bN cap τ;(aX cd e τ1).bind fun r=>(pf o i r τ1).map .nx
 | .ret cap e,τ=>let τ1:=bN cap τ;(aX cd e τ1).bind fun r=>r.keep.bind fun(v,n)=>if n then some (.rt v)else none
 | .retN,_=>some (.rt .non)
 | .ife c a b,τ=>(hZ cd c τ).bind fun r=>if r then bc a τ else bc b τ
 | .forr is one cap src body,τ=>let τ1:=bN cap τ;(uq cd src τ1).bind fun(xs,n,b)=>if b then none else mV (pW is one n) (fun τ=>bc body τ) xs τ1
 | .whil c body,τ=>Da (fun τ=>hZ cd c τ) (fun τ=>bc body τ) fu τ
 | .pass,τ=>some (.nx τ)
 | .brk,τ=>some (.bk τ)
 | .cont,τ=>some (.ct τ)
 | .app i cap e,τ=>let τ1:=bN cap τ;(aX cd e τ1).bind fun r=>r.keep.bind fun(v,m)=>match τ1[i]? with
  | some (.own xs n)=>if xs.length<LN then some (.nx (τ1.set i (.own (xs++[v]) (n&&m))))else none
  | _=>none
 | .seti i cap k e,τ=>let τ1:=bN cap τ;(aX cd e τ1).bind fun r=>r.keep.bind fun(v,m)=>(aX cd k τ1).bind fun x=>match x.val,τ1[i]? with
  | .int j,some (.own xs n)=>(qz xs.length j).map fun q=>.nx (τ1.set i (.own (xs.set q v) (n&&m)))
  | y,some (.owd (.dK ks) xs n)=>(iG y).bind fun k=>if xs.length<LN then some (.nx (τ1.set i (.owd (.dK (jb ks k)) (putL ks xs k v) (n&&m))))else none
  | _,_=>none
 | .drop e,τ=>(aX cd e τ).map fun _=>.nx τ
 | .aug i op e,τ=>(aX cd e τ).bind fun r=>match τ[i]?,r.val,op with
  | some (.frz (.int x) _),.int y,.Add=>some (.nx (τ.set i (.frz (.int (x+y)) true)))
  | some (.frz (.int x) _),.int y,.Sub=>some (.nx (τ.set i (.frz (.int (x-y)) true)))
  | _,_,_=>none
 | .hand m g,τ=>(g ((τ.take m).map TV.valD)).map .rt
 | .rais _,_=>none
 | .never,_=>none
noncomputable def bc:uu->En->Option Fl
 | .nil,τ=>some (.nx τ)
 | .cons s ss,τ=>(gW s τ).bind fun f=>fY f (fun τ1=>bc ss τ1)
end
end
structure FD where
 nn:Nat
 np:Nat
 body:uu
def entry(d:FD)(a:List PV):En:=a.map (λv=>.frz v (imm v))++List.replicate (d.nn-a.length) .un
def bv:Option Fl->Option PV
 |some (.rt v)=>some v|some (.nx _)=>some .non|_=>none
def aF(P:Nat->Option FD):Nat->Nat->List PV->Option PV
 |0,_,_=>none|k+1,f,vs=>(P f).bind λd=>if vs.length=d.np then bv (bc (aF P k) 1000000 d.body (entry d vs))else none
section
set_option autoImplicit true
set_option relaxedAutoImplicit true
variable{cd:Nat->List PV->Option PV}{fu:Nat}{τ:En}
def cw:aX cd (.con v) τ=(some (sc v)):=rfl
def cy:aX cd (.var i) τ=(lI τ i):=rfl
def dP:aX cd (.bin op a b) τ=((aX cd a τ).bind λx=>(aX cd b τ).bind λy=>eM op x y):=rfl
def dE:aX cd (.neg a) τ=((aX cd a τ).bind λx=>(E8 x.val).map λi=>sc (.int (-i))):=rfl
def dN:aX cd (.cmp op a b) τ=((aX cd a τ).bind λx=>(aX cd b τ).bind λy=>(bB op x.val y.val).map λr=>sc (.bl r)):=rfl
def dO:aX cd (.chn o1 o2 a b c) τ=((aX cd a τ).bind λx=>(aX cd b τ).bind λy=>(bB o1 x.val y.val).bind λr=>if r then(aX cd c τ).bind λz=>(bB o2 y.val z.val).map λr=>sc (.bl r)else some (sc (.bl false))):=rfl
def dR:aX cd (.and a b) τ=((aX cd a τ).bind λx=>(lB x.val).bind λt=>if t then aX cd b τ else some (sc (.bl false))):=rfl
def dY:aX cd (.or a b) τ=((aX cd a τ).bind λx=>(lB x.val).bind λt=>if t then some (sc (.bl true))else aX cd b τ):=rfl
def dZ:aX cd (.not a) τ=((aX cd a τ).bind λx=>(lB x.val).map λb=>sc (.bl !b)):=rfl
def dL:aX cd (.ite c a b) τ=((hZ cd c τ).bind λr=>if r then aX cd a τ else aX cd b τ):=rfl
def cL:aX cd (.call f es) τ=((eJ cd es τ).bind λrs=>(cd f (rs.map RV.val)).map told):=rfl
def dQ:aX cd (.bf f es) τ=((eJ cd es τ).bind λrs=>iJ f rs):=rfl
def cu:aX cd (.mth m o es) τ=((aX cd o τ).bind λx=>(eJ cd es τ).bind λrs=>du m x rs):=rfl
def dF:aX cd (.lst es) τ=((eJ cd es τ).bind λrs=>(keeps rs).bind λ(vs,n)=>iQ vs n):=rfl
def cz:aX cd (.tup es) τ=((eJ cd es τ).bind λrs=>(keeps rs).bind λ(vs,n)=>yy vs n):=rfl
def de:aX cd (.dnew) τ=(some (.owd (.dK []) [] true)):=rfl
def dM:aX cd (.dlit k e) τ=((aX cd e τ).bind λr=>r.keep.bind λ(v,_)=>if imm v then some (.owd (.dK [k]) [v] true)else none):=rfl
def dJ:aX cd (.ix a i) τ=((aX cd a τ).bind λx=>(aX cd i τ).bind λy=>index x y):=rfl
def dA:aX cd (.sl a lo hi) τ=((aX cd a τ).bind λx=>(JR cd lo τ).bind λl=>(JR cd hi τ).bind λh=>(tw l).bind λl' =>(tw h).bind λh' =>slice x l' h'):=rfl
def dB:aX cd (.rev a) τ=((aX cd a τ).bind λx=>yk x):=rfl
def dI:aX cd (.lc elt src ifs caps) τ=((uq cd src τ).bind λ(xs,n,_)=>if xs.length<=LN then(cG (λx=>(kb cd ifs (.frz x (n||imm x)::caps.map λi=>τ.getD i .un)).bind λb =>
   if b then(aX cd elt (.frz x (n||imm x)::caps.map λi=>τ.getD i .un)).bind λr=>r.keep.map some else some none) xs).map λ(vs,m)=>.own vs m else none):=rfl
def dH:aX cd (.lc2 elt src ifs caps) τ=((uq cd src τ).bind λ(xs,n,_)=>if xs.length<=LN then(cG (λx=>(jk x).bind λ(a,b)=>(kb cd ifs (.frz a (n||imm a)::.frz b (n||imm b)::caps.map λi=>τ.getD i .un)).bind λt =>
   if t then(aX cd elt (.frz a (n||imm a)::.frz b (n||imm b)::caps.map λi=>τ.getD i .un)).bind λr=>r.keep.map some else some none) xs).map λ(vs,m)=>.own vs m else none):=rfl
def dG:aX cd (.lcs a) τ=((aX cd a τ).bind λx=>zC x):=rfl
def dc:aX cd (.never) τ=(none):=rfl
def ni:eJ cd (.nil) τ=(some []):=rfl
def nG:eJ cd (.cons e es) τ=((aX cd e τ).bind λx=>(eJ cd es τ).map (x::·)):=rfl
def z0w:JR cd (.no) τ=(some none):=rfl
def z0x:JR cd (.yes e) τ=((aX cd e τ).map some):=rfl
def AF:hZ cd (.val e) τ=((aX cd e τ).bind λx=>nu x.val):=rfl
def AH:hZ cd (.not c) τ=((hZ cd c τ).map (!·)):=rfl
def AI:hZ cd (.and c d) τ=((hZ cd c τ).bind λr=>if r then hZ cd d τ else some false):=rfl
def AG:hZ cd (.or c d) τ=((hZ cd c τ).bind λr=>if r then some true else hZ cd d τ):=rfl
def Gs:kb cd (.no) τ=(some true):=rfl
def Gr:kb cd (.yes c) τ=(hZ cd c τ):=rfl
def Go:uq cd (.seq e) τ=((aX cd e τ).bind lz):=rfl
def Gp:uq cd (.rng es) τ=((eJ cd es τ).bind λrs=>(fM rs).map λxs=>(xs,true,false)):=rfl
def Gq:uq cd (.enum a) τ=((aX cd a τ).bind λx=>(k7 x).map λ(xs,n)=>(xs,n,false)):=rfl
def KO:uq cd (.never) τ=(none):=rfl
def jM:gW cd fu (.asg i o cap e) τ=(let a:=bN cap τ;(aX cd e a).bind λr=>(pf o i r a).map .nx):=rfl
def i6:gW cd fu (.ret cap e) τ=(let a:=bN cap τ;(aX cd e a).bind λr=>r.keep.bind λ(v,n)=>if n then some (.rt v)else none):=rfl
def jF:gW cd fu (.ife c a b) τ=((hZ cd c τ).bind λr=>if r then bc cd fu a τ else bc cd fu b τ):=rfl
def jH:gW cd fu (.forr is one cap src body) τ=(let a:=bN cap τ;(uq cd src a).bind λ(xs,n,b)=>if b then none else mV (pW is one n) (λτ=>bc cd fu body τ) xs a):=rfl
def io:gW cd fu (.whil c body) τ=(Da (λτ=>hZ cd c τ) (λτ=>bc cd fu body τ) fu τ):=rfl
def jN:gW cd fu (.app i cap e) τ=(let a:=bN cap τ;(aX cd e a).bind λr=>r.keep.bind λ(v,m)=>match a[i]? with
  |some (.own xs n)=>if xs.length<LN then some (.nx (a.set i (.own (xs++[v]) (n&&m))))else none|_=>none):=rfl
def jI:gW cd fu (.drop e) τ=((aX cd e τ).map λ_=>.nx τ):=rfl
def jG:gW cd fu (.hand m g) τ=((g ((τ.take m).map TV.valD)).map .rt):=rfl
def i7:gW cd fu (.rais w1) τ=(none):=rfl
def i9:gW cd fu (.never) τ=(none):=rfl
def DY:bc cd fu (.nil) τ=(some (.nx τ)):=rfl
def DZ:bc cd fu (.cons s ss) τ=((gW cd fu s τ).bind λf=>fY f (λτ1=>bc cd fu ss τ1)):=rfl
end
end IR
namespace IR
open PySem PySem.Spec PyProof.Rows L2
def del(H:Hp)(p:Addr):Hp:=λb=>if b=p then none else H b
def aW(H:Hp)(O:List Addr):Hp:=λb=>if b∈O then none else H b
theorem gY(s:aD H a):aD (del H p) (del a p):=λb o e=>by
 unfold del at e ⊢
 split at e;ext e
 ·rename_i h
  rw[NJ h];show s b o e
theorem aO{O:List Addr}(s:aD H a):aD (aW H O) (aW a O):=λb o e=>by
 unfold aW at e ⊢
 split at e;ext e
 ·rename_i h
  rw[NJ h];show s b o e
open H
theorem bZ:aD (del H p) H:=λb o e=>by
 unfold del at e
 split at e;ext e;show e
theorem ah{O:List Addr}:aD (aW H O) H:=λb o e=>by
 unfold aW at e
 split at e;ext e;show e
open J in
theorem xT(h:∀b∈a,b∈O):aD (aW H O) (aW H a):=λb o e=>by
 unfold aW at e ⊢
 split at e;ext e
 ·rename_i n
  rwa[NJ λz=>n (h b z)]
def jv:aW H []=H:=by funext b;unfold aW;simp
section
variable(K:W.Frag)(Hi:Hp)
open J
mutual
noncomputable def Rp(n:Bool):PV->Hp->V->Prop
 | .non,_,u=>u=.non
 | .bl b,_,u=>u=.bl b
 | .int i,_,u=>u=.int i
 | .str z,_,u=>u=.str z
 | .lst xs,H,u=>∃p us,u=.ref p/\(n=true->Hi p=none/\H p=some (.lst us))/\bG K H p us/\aG n xs (del H p) us
 | .tup xs,H,u=>∃p us,u=.ref p/\dg K H p us/\aG n xs H us
 | .dK ks vs,H,u=>∃p us,u=.ref p/\(n=true->Hi p=none)/\H p=some (.dK (ks.zip us))/\ks.length=us.length/\aG n vs (del H p) us
 | .dT ks vs,H,u=>∃p us,u=.ref p/\(n=true->Hi p=none)/\H p=some (.dT (ks.zip us))/\ks.length=us.length/\aG n vs (del H p) us
noncomputable def aG(n:Bool):List PV->Hp->List V->Prop
 | [],_,us=>us=[]
 | x::xs,H,us=>∃u r,us=u::r/\Rp n x H u/\aG n xs H r
end
end
section
variable{K:W.Frag}{Hi:Hp}
open J
mutual
theorem Rp.mono{n:Bool}:∀{v:PV}{H H' :Hp}{u:V},aD H H' ->Rp K Hi n v H u->Rp K Hi n v H' u
 | .non,_,_,_,_,h=>h
 | .bl _,_,_,_,_,h=>h
 | .int _,_,_,_,_,h=>h
 | .str _,_,_,_,_,h=>h
 | .lst xs,_,_,_,s,h=>by
  change∃_,_;obtain⟨p,us,e,q,l,r⟩:=h;show⟨p,us,e,fun z=>⟨(q z).1,s _ _ (q z).2⟩,s.seq l,aG.mono (gY s) r⟩
 | .tup xs,_,_,_,s,h=>by
  change∃_,_;obtain⟨p,us,e,l,r⟩:=h;show⟨p,us,e,s.tup l,aG.mono s r⟩
 | .dK ks vs,_,_,_,s,h=>by
  change∃_,_;obtain⟨p,us,e,q,l,z,r⟩:=h;show⟨p,us,e,q,s _ _ l,z,aG.mono (gY s) r⟩
 | .dT ks vs,_,_,_,s,h=>by
  change∃_,_;obtain⟨p,us,e,q,l,z,r⟩:=h;show⟨p,us,e,q,s _ _ l,z,aG.mono (gY s) r⟩
theorem aG.mono{n:Bool}:∀{xs:List PV}{H H' :Hp}{us:List V},aD H H' ->aG K Hi n xs H us->aG K Hi n xs H' us
 | [],_,_,_,_,h=>h
 | x::xs,_,_,_,s,h=>by
  change∃_,_;obtain⟨u,r,e,a,b⟩:=h;show⟨u,r,e,Rp.mono s a,aG.mono s b⟩
end
mutual
theorem Rp.weak{n:Bool}:∀{v:PV}{H:Hp}{u:V},Rp K Hi n v H u->Rp K Hi false v H u
 | .non,_,_,h=>h
 | .bl _,_,_,h=>h
 | .int _,_,_,h=>h
 | .str _,_,_,h=>h
 | .lst xs,_,_,h=>by
  change∃_,_;obtain⟨p,us,e,q,l,r⟩:=h;show⟨p,us,e,(fun z=>absurd z ND),l,aG.weak r⟩
 | .tup xs,_,_,h=>by
  change∃_,_;obtain⟨p,us,e,l,r⟩:=h;show⟨p,us,e,l,aG.weak r⟩
 | .dK ks vs,_,_,h=>by
  change∃_,_;obtain⟨p,us,e,q,l,z,r⟩:=h;show⟨p,us,e,(fun z=>absurd z ND),l,z,aG.weak r⟩
 | .dT ks vs,_,_,h=>by
  change∃_,_;obtain⟨p,us,e,q,l,z,r⟩:=h;show⟨p,us,e,(fun z=>absurd z ND),l,z,aG.weak r⟩
theorem aG.weak{n:Bool}:∀{xs:List PV}{H:Hp}{us:List V},aG K Hi n xs H us->aG K Hi false xs H us
 | [],_,_,h=>h
 | x::xs,_,_,h=>by
  change∃_,_;obtain⟨u,r,e,a,b⟩:=h;show⟨u,r,e,Rp.weak a,aG.weak b⟩
end
open H
def Rp.low{m:Bool}(h:Rp K Hi n v H u)(e:m=true->n=true):Rp K Hi m v H u:=by
 cases n with
 |true=>cases m with
  |true=>show h|false=>show h.weak
 |false=>cases m with
  |true=>cases e rfl|false=>show h
def aG.low{m:Bool}(h:aG K Hi n v H u)(e:m=true->n=true):aG K Hi m v H u:=by
 cases n with
 |true=>cases m with
  |true=>show h|false=>show h.weak
 |false=>cases m with
  |true=>cases e rfl|false=>show h
open J
mutual
theorem Rp.entry{Hj:Hp}{n:Bool}(k:n=true->∀p,Hi p=none->Hj p=none):∀{v:PV}{H:Hp}{u:V},Rp K Hi n v H u->Rp K Hj n v H u
 | .non,_,_,h=>h
 | .bl _,_,_,h=>h
 | .int _,_,_,h=>h
 | .str _,_,_,h=>h
 | .lst xs,_,_,h=>by
  change∃_,_;obtain⟨p,us,e,q,l,r⟩:=h;show⟨p,us,e,fun z=>⟨k z _ (q z).1,(q z).2⟩,l,aG.entry k r⟩
 | .tup xs,_,_,h=>by
  change∃_,_;obtain⟨p,us,e,l,r⟩:=h;show⟨p,us,e,l,aG.entry k r⟩
 | .dK ks vs,_,_,h=>by
  change∃_,_;obtain⟨p,us,e,q,l,z,r⟩:=h;show⟨p,us,e,fun z=>k z _ (q z),l,z,aG.entry k r⟩
 | .dT ks vs,_,_,h=>by
  change∃_,_;obtain⟨p,us,e,q,l,z,r⟩:=h;show⟨p,us,e,fun z=>k z _ (q z),l,z,aG.entry k r⟩
theorem aG.entry{Hj:Hp}{n:Bool}(k:n=true->∀p,Hi p=none->Hj p=none):∀{xs:List PV}{H:Hp}{us:List V},aG K Hi n xs H us->aG K Hj n xs H us
 | [],_,_,h=>h
 | x::xs,_,_,h=>by
  change∃_,_;obtain⟨u,r,e,a,b⟩:=h;show⟨u,r,e,Rp.entry k a,aG.entry k b⟩
end
def wG(H G:Hp):Prop:=(∀b a,H b=some (.tup a)->G b=some (.tup a))/\∀b o a,H b=some (.frz o (.tup a))->G b=some (.frz o (.tup a))
open H
def wG.at{G:Hp}(t:wG H G)(h:dg K H p a):dg K G p a:=by
 rcases h with(h|⟨o,h⟩)|h
 ·show .inl (.inl (t.1 _ _ h))
 ·show .inl (.inr ⟨o,t.2 _ _ _ h⟩)
 ·show .inr h
open J
mutual
theorem Rp.imm{n m:Bool}:∀{v:PV}{H G:Hp}{u:V},imm v=true->wG H G->Rp K Hi n v H u->Rp K Hi m v G u
 | .non,_,_,_,_,_,h=>h
 | .bl _,_,_,_,_,_,h=>h
 | .int _,_,_,_,_,_,h=>h
 | .str _,_,_,_,_,_,h=>h
 | .lst xs,_,_,_,i,_,h=>by unfold IR.imm at i;ext i
 | .tup xs,_,_,_,i,t,h=>by
  change∃_,_;unfold IR.imm at i;obtain⟨p,us,e,l,r⟩:=h;show⟨p,us,e,t.at l,aG.imm i t r⟩
 | .dK ks vs,_,_,_,i,_,h=>by unfold IR.imm at i;ext i
 | .dT ks vs,_,_,_,i,_,h=>by unfold IR.imm at i;ext i
theorem aG.imm{n m:Bool}:∀{xs:List PV}{H G:Hp}{us:List V},imms xs=true->wG H G->aG K Hi n xs H us->aG K Hi m xs G us
 | [],_,_,_,_,_,h=>h
 | x::xs,_,_,_,i,t,h=>by
  change∃_,_;unfold imms at i;rw[M8]at i;obtain⟨u,r,e,a,b⟩:=h;show⟨u,r,e,Rp.imm i.1 t a,aG.imm i.2 t b⟩
end
open H
def Rp.up(h:Rp K Hi n v H u):Rp K Hi (n||IR.imm v) v H u:=by
 cases e:IR.imm v with
 |true=>show Rp.imm e ⟨λ_ _ e=>e,λ_ _ _ e=>e⟩ h|false=>rwa[Bool.or_false]
def aG.up(h:aG K Hi n v H u):aG K Hi (n||IR.imms v) v H u:=by
 cases e:IR.imms v with
 |true=>show aG.imm e ⟨λ_ _ e=>e,λ_ _ _ e=>e⟩ h|false=>rwa[Bool.or_false]
theorem aG.len{n:Bool}:∀{c:List PV}{H:Hp}{us:List V},aG K Hi n c H us->c.length=us.length
 |[],_,_,h=>by rw[show _=_ from h];rfl|x::c,_,_,h=>by let⟨u,r,e,a,b⟩:=h;rw[e,NW,NW,aG.len b]
theorem aG.at{n:Bool}:∀{c:List PV}{H:Hp}{us:List V}{i:Nat}{x:PV},aG K Hi n c H us->c[i]? =some x->∃u,us[i]? =some u/\Rp K Hi n x H u
 |[],_,_,_,_,h,e=>by simp at e|y::c,_,_,i,x,h,e=>by
  let⟨u,r,rfl,a,b⟩:=h;cases i with
  |zero=>simp at e;subst e;exists u,03,a|succ i=>simpa using aG.at b (by simpa using e)
theorem aG.at'{n:Bool}:∀{c:List PV}{H:Hp}{us:List V}{i:Nat}{u:V},aG K Hi n c H us->us[i]? =some u->∃x,c[i]? =some x/\Rp K Hi n x H u
 |[],_,_,_,_,h,e=>by obtain rfl:=h;simp at e|y::c,_,_,i,x,h,e=>by
  let⟨u,r,rfl,a,b⟩:=h;cases i with
  |zero=>simp at e;subst e;exists y,03,a|succ i=>simpa using aG.at' b (by simpa using e)
def aG.nil:aG K Hi n [] H []:=by rfl
def aG.cons{n:Bool}{x:PV}{c:List PV}{H:Hp}{u:V}{us:List V}(a:Rp K Hi n x H u)(b:aG K Hi n c H us):aG K Hi n (x::c) H (u::us):=by exists u,us,rfl,a,b
theorem aG.app{n:Bool}:∀{c e:List PV}{H:Hp}{us d:List V},aG K Hi n c H us->aG K Hi n e H d->aG K Hi n (c++e) H (us++d)
 |[],_,_,_,_,h,g=>by obtain rfl:=h;show g|x::c,_,_,_,_,h,g=>by let⟨u,r,rfl,a,b⟩:=h;show .cons a (aG.app b g)
theorem aG.take{n:Bool}:∀{c:List PV}{H:Hp}{us:List V}(k:Nat),aG K Hi n c H us->aG K Hi n (c.take k) H (us.take k)
 |[],_,_,_,h=>by obtain rfl:=h;simp;show .nil|x::c,_,_,k,h=>by
  let⟨u,r,rfl,a,b⟩:=h;cases k with
  |zero=>show .nil|succ k=>show .cons a (aG.take k b)
theorem aG.drop{n:Bool}:∀{c:List PV}{H:Hp}{us:List V}(k:Nat),aG K Hi n c H us->aG K Hi n (c.drop k) H (us.drop k)
 |[],_,_,_,h=>by obtain rfl:=h;simp;show .nil|x::c,_,_,k,h=>by
  let⟨u,r,rfl,a,b⟩:=h;cases k with
  |zero=>show .cons a b|succ k=>show aG.drop k b
theorem aG.rev{n:Bool}:∀{c:List PV}{H:Hp}{us:List V},aG K Hi n c H us->aG K Hi n c.reverse H us.reverse
 |[],_,_,h=>by obtain rfl:=h;show .nil|x::c,_,_,h=>by let⟨u,r,rfl,a,b⟩:=h;rw[Py,Py];show aG.app (aG.rev b) (.cons a .nil)
theorem aG.set{n:Bool}:∀{c:List PV}{H:Hp}{us:List V}(k:Nat){x:PV}{u:V},aG K Hi n c H us->Rp K Hi n x H u->aG K Hi n (c.set k x) H (us.set k u)
 |[],_,_,_,_,_,h,_=>by obtain rfl:=h;show .nil|y::c,_,_,k,_,_,h,g=>by
  let⟨u,r,rfl,a,b⟩:=h;cases k with
  |zero=>show .cons g b|succ k=>show .cons a (aG.set k b g)
def Rp.int:Rp K Hi n (.int i) H u↔u=.int i:=by rfl
def Rp.str:Rp K Hi n (.str i) H u↔u=.str i:=by rfl
def Rp.bl:Rp K Hi n (.bl i) H u↔u=.bl i:=by rfl
def Rp.non:Rp K Hi n .non H u↔u=.non:=by rfl
theorem Rp.tup{n:Bool}{a:List PV}{H:Hp}{u:V}:Rp K Hi n (.tup a) H u↔∃p us,u=.ref p/\dg K H p us/\aG K Hi n a H us:=.rfl
theorem Rp.lst{n:Bool}{a:List PV}{H:Hp}{u:V}:Rp K Hi n (.lst a) H u↔∃p us,u=.ref p/\(n=true->Hi p=none/\H p=some (.lst us))/\bG K H p us/\aG K Hi n a (del H p) us:=.rfl
theorem aG.ints{n:Bool}{H:Hp}:∀{xs:List Int}{us:List V},aG K Hi n (xs.map PV.int) H us↔us=xs.map V.int
 |[],us=>by rfl|x::xs,us=>by
  rw[NE,NE,aG]
  constructor
  ·intro zm;let⟨u,r,rfl,a,b⟩:=zm
   rw[Rp.int.mp a,aG.ints.mp b]
  ·rintro rfl
   exists _,_,rfl,Rp.int.mpr rfl,aG.ints.mpr rfl
def At:Bd->List V->HO->Prop
 | .lst,us,o=>o=.lst us| .dK ks,us,o=>o=.dK (ks.zip us)/\ks.length=us.length| .dT ks,us,o=>o=.dT (ks.zip us)/\ks.length=us.length
def Mo(o:HO):Prop:=∃b us,At b us o
theorem Mo.lst{us:List V}:Mo (.lst us):=⟨.lst,us,rfl⟩
def Mo.tup{a:List V}(h:Mo (.tup a)):False:=by
 let⟨b,us,h⟩:=h;cases b with
 |lst=>ext h|dK c=>cases h.1|dT c=>cases h.1
variable(K Hi)in
structure aY(O:List Addr)(τ:En)(σ:L2.St)(H:Hp):Prop where
 same:aD Hi H
 own:∀l∈O,Hi l=none/\∃o,H l=some o/\Mo o
 frz:∀(i:Nat)(v:PV)(n:Bool),τ[i]? =some (.frz v n)->∃u,σ[i]? =some (some u)/\Rp K Hi n v (aW H O) u
 obs:∀(i:Nat)(t:TV)(b:Bd)(xs:List PV)(n:Bool),τ[i]? =some t->t.ob=some (b,xs,n)->∃l us o,σ[i]? =some (some (.ref l))/\l∈O/\H l=some o/\At b us o/\aG K Hi n xs (aW H O) us
 dst:∀(i j:Nat)(t t' :TV)(x y:Bd×List PV×Bool)(l:Addr),τ[i]? =some t->t.ob=some x->τ[j]? =some t' ->t'.ob=some y->σ[i]? =some (some (.ref l))->σ[j]? =some (some (.ref l))->i=j
section
variable{O:List Addr}{τ:En}{σ:L2.St}{H H' :Hp}
def aY.owns(R:aY K Hi O τ σ H)(i:Nat)(a:List PV)(n:Bool)(e:τ[i]? =some (.own a n)):∃l us,σ[i]? =some (some (.ref l))/\l∈O/\H l=some (.lst us)/\aG K Hi n a (aW H O) us:=by let⟨l,us,o,b,d,g,f,c⟩:=R.obs i _ .lst a n e rfl;ext f;exists l,us,b,d,g,c
theorem aY.ext(R:aY K Hi O τ σ H)(s:aD H H'):aY K Hi O τ σ H' where
 same:=R.same.trans s
 own:=λl hl=>⟨(R.own l hl).1,by let⟨o,e,m⟩:=(R.own l hl).2;exists o,s _ _ e,m⟩
 frz:=λi v n e=>by let⟨u,a,c⟩:=R.frz i v n e;exists u,a,c.mono (aO s)
 obs:=λi t b xs n e ht=>by let⟨l,us,o,a,c,g,f,d⟩:=R.obs i t b xs n e ht;exists l,us,o,a,c,s _ _ g,f,d.mono (aO s)
 dst:=R.dst
def aY.tups(R:aY K Hi O τ σ H):wG H (aW H O):=by
 show⟨λb xs e=> ?_,λb o xs e=> ?_⟩
 ·unfold aW
  rw[NJ λz=> ?_]
  ·show e
  ·let⟨us,a,m⟩:=(R.own b z).2
   rw[e]at a;ext a;show m.tup
 ·unfold aW
  rw[NJ λz=> ?_]
  ·show e
  ·let⟨us,a,m⟩:=(R.own b z).2
   rw[e]at a;ext a;let⟨b,us,m⟩:=m;cases b with
   |lst=>ext m|dK c=>cases m.1|dT c=>cases m.1
open J in
def bR{a:Type}{l:List a}{i j:Nat}{x y:a}(h:(l.set i x)[j]? =some y):(i=j/\y=x)\/(i≠j/\l[j]? =some y):=by
 rw[PP]at h
 split at h
 ·rename_i e
  split at h;show .inl ⟨e,(Nf h).symm⟩;ext h
 ·rename_i e
  show .inr ⟨e,h⟩
theorem aY.setF(R:aY K Hi O τ σ H){i:Nat}{v:PV}{n:Bool}{u:V}(s:i<σ.length)(r:Rp K Hi n v (aW H O) u):aY K Hi O (τ.set i (.frz v n)) (σ.set i (some u)) H where
 same:=R.same
 own:=R.own
 frz:=λj w m e=>by
  rcases bR e with⟨rfl,c⟩|⟨p,c⟩
  ·ext c
   exists u,by rw[OI s],r
  ·let⟨C,d,f⟩:=R.frz j w m c
   exists C,by rwa[N5 p],f
 obs:=λj t b xs m e ht=>by
  rcases bR e with⟨rfl,c⟩|⟨p,c⟩
  ·subst c
   ext ht
  ·let⟨l,us,o,d,f⟩:=R.obs j t b xs m c ht
   exists l,us,o,by rwa[N5 p],f
 dst:=λa b t t' x y l e1 ht e2 ht' d f=>by
  rcases bR e1 with⟨_,z⟩|⟨h,q⟩
  ·subst z
   ext ht
  ·rcases bR e2 with⟨_,z⟩|⟨g,A⟩
   ·subst z
    ext ht'
   ·rw[N5 h]at d
    rw[N5 g]at f;show R.dst a b t t' x y l q ht A ht' d f
open J
def aY.setB(R:aY K Hi O τ σ H){b0:Bd}{us:List V}{o:HO}(u:Q.ob=some (b0,T,n))(J:i<σ.length)(s:aD H H')(M:H p=none)(U:H' p=some o)(W:At b0 us o)(r:aG K Hi n T (aW H' (p::O)) us) :
  aY K Hi (p::O) (τ.set i Q) (σ.set i (some (.ref p))) H' :=by
 let N:aD (aW H O) (aW H' (p::O)):=λb o e=>by
  unfold aW at e ⊢
  split at e;ext e
  ·rename_i Y
   let A:=aE e M;rw[NJ (by simp[A,Y])];show s b o e
 show⟨R.same.trans s,λl E=> ?_,λj w m e=> ?_,λj t b ys m e ht=> ?_,λa b t t' x y l e1 ht e2 ht' f d=> ?_⟩
 ·rcases NH.mp E with rfl|E
  ·show⟨R.same.free M,o,U,_,_,W⟩
  ·show X_02 (λq=>X_12 λC e m=> ?_) (R.own l E)
   show⟨q,Y_12 C (s _ _ e) m⟩
 ·rcases bR e with⟨rfl,v⟩|⟨A,v⟩
  ·rw[<- v]at u
   ext u
  ·let⟨u',f,d⟩:=R.frz j w m v
   exists u',by rwa[N5 A],d.mono N
 ·rcases bR e with⟨rfl,v⟩|⟨A,v⟩
  ·subst v
   rw[u]at ht;ext ht;exists p,us,o,by rw[OI J],M7,U,W,r
  ·let⟨l,C,S,f,d,g3,g4,X⟩:=R.obs j t b ys m v ht
   exists l,C,S,by rwa[N5 A],M4 _ d,s _ _ g3,g4,X.mono N
 ·let z:∀(c:Nat)t x,τ[c]? =some t->t.ob=some x->σ[c]? =some (some (.ref l))->l≠p:=λc t x e ht g=>by
   obtain⟨b',zs,q⟩:=x;let⟨l',C,S,q1,q2,q3,_⟩:=R.obs c t b' zs q e ht;rw[q1]at g;ext g;show aE q3 M
  rcases bR e1 with⟨rfl,I⟩|⟨L,I⟩
  ·rw[OI J]at f
   ext f
   rcases bR e2 with⟨rfl,_⟩|⟨h,D⟩
   ·rfl
   ·rw[N5 h]at d
    show absurd rfl (z b t' y D ht' d)
  ·rw[N5 L]at f
   rcases bR e2 with⟨rfl,D⟩|⟨h,D⟩
   ·rw[OI J]at d
    ext d;show absurd rfl (z a t x I ht f)
   ·rw[N5 h]at d
    show R.dst a b t t' x y l I ht D ht' f d
theorem aY.setO(R:aY K Hi O τ σ H){us:List V}(c:i<σ.length)(s:aD H H')(d:H p=none)(b:H' p=some (.lst us))(r:aG K Hi n a (aW H' (p::O)) us) :
  aY K Hi (p::O) (τ.set i (.own a n)) (σ.set i (some (.ref p))) H' :=R.setB rfl c s d b rfl r
def aY.updB(R:aY K Hi O τ σ H){t t1:TV}{b1:Bd}{m:Bool}{us:List V}{o:HO}(e:τ[i]? =some t)(A:t.ob=some (b,J,n))(p:t1.ob=some (b1,E,m))(u:σ[i]? =some (some (.ref l)))(N:At b1 us o)(r:aG K Hi m E (aW H O) us) :
  aY K Hi O (τ.set i t1) σ (L2.upd H l o):=by
 let⟨l',vs,o',Q,C,g3,g4,g5⟩:=R.obs i t b J n e A;rw[u]at Q;ext Q;let D:aW (L2.upd H l o) O=aW H O:=by
  funext b
  unfold aW
  split;rfl
  ·rename_i W
   show aA λz=>W (z▸C)
 show⟨λb o q=> ?_,λk hk=> ?_,λj w q z=> ?_,λj g b2 zs q z ht2=> ?_,λa b g s x y c e1 h2 e2 h3 k1 k2=> ?_⟩
 ·rw[aA (aE q ((R.own l C).1))]
  show R.same b o q
 ·show X_02 (λq=>X_12 λv z U=> ?_) (R.own k hk)
  show⟨q,?_⟩
  by_cases c:k=l
  ·subst c
   show⟨o,aB,_,_,N⟩
  ·exists v,by rwa[aA c],U
 ·rw[D]
  rcases bR z with⟨rfl,d⟩|⟨L,d⟩
  ·rw[<- d]at p
   ext p
  ·show R.frz j w q d
 ·rw[D]
  rcases bR z with⟨rfl,d⟩|⟨L,d⟩
  ·subst d
   rw[p]at ht2;ext ht2;exists l,us,o,u,C,aB,N,r
  ·let⟨I,v,o2,M,S,q3,q4,Y⟩:=R.obs j g b2 zs q d ht2
   exists I,v,o2,M,S,?_,q4,Y;rw[aA λc=> ?_]
   ·show q3
   ·subst c
    show L (R.dst i j t g _ _ I e A d ht2 u M)
 ·let f:∀c (g:TV)x,(τ.set i t1)[c]? =some g->g.ob=some x->∃(s:TV)(y:Bd×List PV×Bool),τ[c]? =some s/\s.ob=some y:=λc g x z h=>by
   rcases bR z with⟨rfl,_⟩|⟨_,d⟩
   ·exists _,_,e,A
   ·exists _,_,d,h
  let⟨_,_,Z,w1⟩:=f a g x e1 h2;let⟨_,_,z2,T⟩:=f b s y e2 h3;show R.dst a b _ _ _ _ c Z w1 z2 T k1 k2
theorem aY.upd(R:aY K Hi O τ σ H){m:Bool}{us:List V}(e:τ[i]? =some (.own b n))(c:σ[i]? =some (some (.ref l)))(r:aG K Hi m a (aW H O) us) :
  aY K Hi O (τ.set i (.own a m)) σ (L2.upd H l (.lst us)):=R.updB e rfl rfl c rfl r
open H
def Rp.at{us:List V}{o:HO}{G:Hp}(e:n=true->Hi l=none)(h:G l=some o)(d:At b us o)(r:aG K Hi n a (del G l) us):Rp K Hi n (b.pv a) G (.ref l):=by
 cases b with
 |lst=>ext d;show Rp.lst.mpr (Y_24 l us rfl (λz=>⟨e z,h⟩) (bG.of h) r)|dK f =>let⟨rfl,c⟩:=d;exists l,us,rfl,e,h,c,r
 |dT f =>let⟨rfl,c⟩:=d;exists l,us,rfl,e,h,c,r
open J in
def aY.freezeB(R:aY K Hi O τ σ H){t:TV}{s:Bd}(e:τ[i]? =some t)(D:t.ob=some (s,r,n)):∃A,aY K Hi A (τ.set i (.frz (s.pv r) n)) σ H/\∀b∈A,b∈O:=by
 let⟨l,us,o,I,E,X,Z,M⟩:=R.obs i t s r n e D;exists O.filter λb=>decide (b≠l),?_,λb hb=>(Nv.mp hb).1;let d:∀b,b∈O.filter (λb=>decide (b≠l))↔b∈O/\b≠l:=λb=>by simp
 let v:aD (aW H O) (aW H (O.filter λb=>decide (b≠l))):=xT λb hb=>((d b).mp hb).1;let N:aD (aW H O) (del (aW H (O.filter λb=>decide (b≠l))) l):=λb o z=>by
  unfold aW at z
  split at z;ext z
  ·rename_i C
   let g:b≠l:=λc=>C (c▸E);unfold del aW;rwa[NJ g,NJ λc=>C ((d b).mp c).1]
 let J:aW H (O.filter λb=>decide (b≠l)) l=some o:=by unfold aW;rwa[NJ λc=>((d l).mp c).2 rfl]
 show⟨R.same,λb hb=>R.own b ((d b).mp hb).1,λj w m z=> ?_,λj t2 b2 ys m z ht2=> ?_,λa b t2 t3 x y c e1 h2 e2 h3 k1 k2=> ?_⟩
 ·rcases bR z with⟨rfl,f⟩|⟨g,f⟩
  ·ext f
   exists .ref l,I,Rp.at (λ_=>(R.own l E).1) J Z (M.mono N)
  ·let⟨u,h,p⟩:=R.frz j w m f
   exists u,h,p.mono v
 ·rcases bR z with⟨rfl,f⟩|⟨g,f⟩
  ·subst f
   ext ht2
  ·let⟨q,L,W,h,p,Y,T,Q⟩:=R.obs j t2 b2 ys m f ht2
   exists q,L,W,h,(d q).mpr ⟨p,λc=>by subst c;show g (R.dst i j _ _ _ _ q e D f ht2 I h)⟩,Y,T,Q.mono v
 ·rcases bR e1 with⟨_,z⟩|⟨_,S⟩
  ·subst z
   ext h2
  ·rcases bR e2 with⟨_,z⟩|⟨_,U⟩
   ·subst z
    ext h3
   ·show R.dst a b t2 t3 x y c S h2 U h3 k1 k2
def aY.freeze(R:aY K Hi O τ σ H)(i:Nat):∃a,aY K Hi a (qT τ i) σ H/\∀b∈a,b∈O:=by
 unfold qT;cases e:τ[i]? with
 |none=>exists O,R,λb hb=>hb|some t =>
  cases t with
  |un=>exists O,R,λb hb=>hb|frz v n=>exists O,R,λb hb=>hb|own c n=>show R.freezeB e rfl|owd b c n=>show R.freezeB e rfl
theorem aY.freezes:∀{cap:List Nat}{O:List Addr}{c:En},aY K Hi O c σ H->∃a,aY K Hi a (bN cap c) σ H/\∀b∈a,b∈O
 |[],O,_,R=>(Y_12 O R (λb hb=>hb))|i::cap,_,_,R=>by let⟨a,d,e⟩:=R.freeze i;obtain⟨f,h,g⟩:=aY.freezes d;exists f,h,λb hb=>e b (g b hb)
variable(K Hi)in
def ag(O:List Addr)(H a :Hp):RV->V->Prop
 | .frz v n,u=>Rp K Hi n v (aW a O) u| .bor v,u=>Rp K Hi false v a u| .own xs n,u=>∃p us,u=.ref p/\H p=none/\a p=some (.lst us)/\aG K Hi n xs (aW (del a p) O) us| .owd b xs n,u=>∃p us o,u=.ref p/\H p=none/\a p=some o/\At b us o/\aG K Hi n xs (aW (del a p) O) us
def ag.ext(h:ag K Hi O H H' r u)(s:aD H' f):ag K Hi O H f r u:=by
 cases r with
 |frz v n=>show Rp.mono (aO s) h|bor v=>show Rp.mono s h|own g n =>let⟨p,us,e,d,a,c⟩:=h;exists p,us,e,d,s _ _ a,c.mono (aO (gY s))
 |owd b g n =>let⟨p,us,o,e,d,a,i,c⟩:=h;exists p,us,o,e,d,s _ _ a,i,c.mono (aO (gY s))
def ag.back(h:ag K Hi O H H' r u)(s:aD f H):ag K Hi O f H' r u:=by
 cases r with
 |frz v n=>show h|bor v=>show h|own g n =>let⟨p,us,e,d,a,c⟩:=h;exists p,us,e,s.free d,a,c
 |owd b g n =>let⟨p,us,o,e,d,a,i,c⟩:=h;exists p,us,o,e,s.free d,a,i,c
def jw:aW (del H' p) O=del (aW H' O) p:=by
 funext b
 unfold aW del;dsimp only
 split<;>split<;>(try rfl)<;>simp_all
open J in
def ag.keep(R:aY K Hi O τ σ H)(h:ag K Hi O H H' r u)(s:aD H H')(e:r.keep=some (v,n)):Rp K Hi n v (aW H' O) u:=by
 cases r with
 |frz w m =>ext e;show h
 |bor w =>
  let e:(if imm w then some (w,true)else none)=some (v,n):=e
  split at e
  ·rename_i i
   ext e;show Rp.imm i (R.ext s).tups h
  ·ext e
 |own l m =>
  ext e;let⟨p,us,e,c,f,g⟩:=h;let d:aW H' O p=some (.lst us):=by
   unfold aW;rw[NJ λz=> ?_]
   ·show f
   ·let⟨j,a,_⟩:=(R.own p z).2
    rw[c]at a;ext a
  show Rp.lst.mpr (Y_24 p us e (λ_=>⟨R.same.free c,d⟩) (bG.of d) (by rwa[<- jw]))
 |owd b l m =>
  ext e;let⟨p,us,o,e,c,f,q,g⟩:=h;subst e;let d:aW H' O p=some o:=by
   unfold aW;rw[NJ λz=> ?_]
   ·show f
   ·let⟨j,a,_⟩:=(R.own p z).2
    rw[c]at a;ext a
  show Rp.at (λ_=>R.same.free c) d q (by rwa[<- jw])
def ag.val(R:aY K Hi O τ σ H)(h:ag K Hi O H H' r u)(s:aD H H'):Rp K Hi false r.val H' u:=by
 cases r with
 |frz w m=>show(Rp.mono ah h).weak|bor w=>show h|own a m=>show(Rp.mono ah (h.keep R s rfl)).weak|owd b a m=>show(Rp.mono ah (h.keep R s rfl)).weak
open J in
def ag.its(R:aY K Hi O τ σ H)(h:ag K Hi O H H' r u)(s:aD H H')(e:r.its=some (c,n)) :
  ∃p us,u=.ref p/\((bG K H' p us/\∃a,r.val=.lst a)\/(dg K H' p us/\∃a,r.val=.tup a))/\aG K Hi n c (aW H' O) us:=by
 cases r with
 |frz w m =>
  cases w with
  |lst a =>ext e;let⟨p,us,e,_,l,r⟩:=Rp.lst.mp h;exists p,us,e,.inl ⟨(ah).seq l,_,rfl⟩,r.mono bZ
  |tup a =>ext e;let⟨p,us,e,l,r⟩:=Rp.tup.mp h;exists p,us,e,.inr ⟨(ah).tup l,_,rfl⟩,r
  |_=>ext e
 |bor w =>
  cases w with
  |lst a =>
   let e:(if imms a then some (a,true)else none)=some (c,n):=e
   split at e
   ·rename_i i
    ext e;let⟨p,us,e,_,l,r⟩:=Rp.lst.mp h;exists p,us,e,.inl ⟨l,_,rfl⟩,aG.imm i (R.ext s).tups (r.mono bZ)
   ·ext e
  |tup a =>
   let e:(if imms a then some (a,true)else none)=some (c,n):=e
   split at e
   ·rename_i i
    ext e;let⟨p,us,e,l,r⟩:=Rp.tup.mp h;exists p,us,e,.inr ⟨l,_,rfl⟩,aG.imm i (R.ext s).tups r
   ·ext e
  |_=>ext e
 |own a m =>ext e;let⟨p,us,e,g,d,f⟩:=h;exists p,us,e,.inl ⟨bG.of d,_,rfl⟩,f.mono (aO bZ)
 |owd b a m=>ext e
end
end
section
variable{K:W.Frag}{Hi:Hp}{κ:Type}[DecidableEq κ]
theorem wQ{n:Bool}{G:Hp}{k:κ}:∀{c:List κ}{f:List PV}{us:List V},aG K Hi n f G us->c.length=us.length->(lE c f k=none->fg (c.zip us) k=none)/\∀e,lE c f k=some e->∃w,fg (c.zip us) k=some w/\Rp K Hi n e G w
 |[],f,us,r,d=>by show⟨λ_=>rfl,λe h=> ?_⟩;unfold lE at h;ext h
 |k' ::c,[],us,r,d=>by obtain rfl:=r;ext d
 |k' ::c,v::f,us,r,d=>by
  let⟨u,j,rfl,a,b⟩:=r;let d:c.length=j.length:=by simpa using d
  obtain⟨g,i⟩:=wQ b d;rw[O9];unfold lE
  by_cases e:k' =k
  ·rw[M9 e,jO e]
   show⟨λz=>(by ext z),λx z=>(Y_12 u rfl (by ext z;show a))⟩
  ·rw[NJ e,jP e]
   show⟨g,i⟩
theorem qr{k:κ}:∀{ks:List κ}{us:List V},ks.length=us.length->(((ks.zip us).any λkv=>decide (kv.1=k))=true↔k∈ks)
 |[],us,hl=>by simp|k' ::ks,[],hl=>by ext hl|k' ::ks,u::us,hl=>by let a:=qr (k:=k) (by simpa using hl);rw[O9,PK,Od,a,NH];simp[eq_comm]
theorem wg{k:κ}{y:V}:∀{ks:List κ}{us:List V},ks.length=us.length->(ks.zip us).map (λkv=>if kv.1=k then(kv.1,y)else kv)=ks.zip (bt ks us k y)/\(bt ks us k y).length=us.length
 |[],us,hl=>⟨03,by unfold bt;rfl⟩|k' ::ks,[],hl=>by ext hl|k' ::ks,u::us,hl=>by
  obtain⟨a,b⟩:=wg (by simpa using hl);unfold bt;show⟨?_,by rw[NW,b,NW]⟩;rw[O9,NE,O9,a]
  by_cases e:k' =k<;>simp[e]
def EN{k:κ}{y:V}{us:List V}(b:a.length=us.length):dm (a.zip us) k y=(jb a k).zip (putL a us k y)/\(jb a k).length=(putL a us k y).length:=by
 unfold dm jb putL
 by_cases e:k∈a
 ·rw[M9 ((qr b).mpr e),M9 e,M9 e]
  obtain⟨c,d⟩:=wg b;show⟨c,by rwa[d]⟩
 ·rw[NJ λz=>e ((qr b).mp z),NJ e,NJ e,List.zip_append b]
  show⟨rfl,by simp[b]⟩
theorem vJ{n:Bool}{G:Hp}{k:κ}{v:PV}{u:V}(f:Rp K Hi n v G u):∀{d:List κ}{c:List PV}{us:List V},aG K Hi n c G us->aG K Hi n (bt d c k v) G (bt d us k u)
 |[],c,us,r=>by unfold bt;show r|k' ::d,[],us,r=>by obtain rfl:=r;unfold bt;show .nil
 |k' ::d,x::c,us,r=>by
  let⟨w,g,rfl,a,b⟩:=r;unfold bt
  by_cases e:k' =k;rw[M9 e,M9 e];show .cons f (vJ f b);rw[NJ e,NJ e];show .cons a (vJ f b)
def Hk{G:Hp}{k:κ}{us:List V}(c:Rp K Hi n v G u)(r:aG K Hi n a G us):aG K Hi n (putL b a k v) G (putL b us k u):=by
 unfold putL
 split;show vJ c r;show r.app (.cons c .nil)
end
end IR
namespace IR
open PySem
structure Ct where
 N:List Str
 S:List (Str×NameKind)
 F:List (Str×Nat)
 G:List (Str×PV)
 B:List Str
 M:List Nat
def slot:List Str->Str->Option Nat
 |[],_=>none|y::ys,x=>if y==x then some 0 else(slot ys x).map (·+1)
theorem gp:∀{N:List Str}{x:Str}{i:Nat},slot N x=some i->N[i]? =some x
 |[],_,_,h=>by ext h|y::ys,x,i,h=>by
  unfold slot at h
  split at h
  ·rename_i e
   ext h;simp[Nh e]
  ·cases e:slot ys x with
   |none=>rw[e]at h;ext h|some j =>
    rw[e]at h;ext h
    simpa using gp e
def Gy(S:List (Str×NameKind))(x:Str):Bool:=S.lookup x==some .local||S.lookup x==some .cell||S.lookup x==some .free
def xE(x:Str):Bool:=x==("__debug__":Str)||x==("__classdict__":Str)||x==("__name__":Str)
def dS(ct:Ct)(x:Str):IE :=
 if xE x then .never else if Gy ct.S x then(match slot ct.N x with
  |some i=>.var i|none=>.never)else if ct.S.lookup x==some .globalImplicit then(match ct.G.lookup x with
   |some v=>.con v|none=>.never)else .never
def cZ:Expr->Bool
 | .Set .. =>true|_=>false
def xA:CmpOp->Bool
 | .Lt=>true| .LtE=>true| .Gt=>true| .GtE=>true| .Eq=>true| .NotEq=>true|_=>false
def fQ:Expr->Bool
 | .Slice .. =>true|_=>false
def aV:Expr->Bool
 | .Starred .. =>true|_=>false
def plainB:Expr->Bool
 | .Name .. =>true| .Subscript .. =>true| .Constant .. =>true|_=>false
def pM:Const->IE
 | .int i=>.con (.int i)| .bool b=>.con (.bl b)| .str z=>.con (.str z)| .none=>.con .non|_=>.never
def mX(c:BoolOp):List IE->IE
 |[]=>.never|[a]=>a|a::b::r=>match c with
  | .And=>.and a (mX c (b::r))| .Or=>.or a (mX c (b::r))
def mW(c:BoolOp):List IC->IC
 |[]=>.val .never|[a]=>a|a::b::r=>match c with
  | .And=>.and a (mW c (b::r))| .Or=>.or a (mW c (b::r))
def xz(x:Str)(k:Nat):Option Bf :=
 if x==("len":Str)&&k==1 then some .len else if x==("int":Str)&&k==1 then some .int else if x==("list":Str)&&k==1 then some .list else if x==("tuple":Str)&&k==1 then some .tuple
 else if x==("all":Str)&&k==1 then some .all else if x==("min":Str)&&k==2 then some .min else if x==("max":Str)&&k==2 then some .max else if x==("abs":Str)&&k==1 then some .abs
 else if x==("any":Str)&&k==1 then some .any else if x==("sum":Str)&&k==1 then some .sum else if x==("sorted":Str)&&k==1 then some .sorted else none
def ik(x:Str)(k:Nat):Option Bf:=if x==("str":Str)&&k==1 then some .str else if x==("max":Str)&&k==1 then some .maxl else xz x k
def xF(x y:Str):Option Bf :=
 if x==("sorted":Str)&&y==("set":Str)then some .sset
 else none
def AS(x:Str):Option String :=
 if x==("int":Str)then some "int" else if x==("bool":Str)then some "bool" else if x==("str":Str)then some "str" else if x==("list":Str)then some "list" else if x==("tuple":Str)then some "tuple" else none
def own(ct:Ct)(x:Str):Bool:=ct.B.contains x&&ct.S.lookup x==some .globalImplicit
def qk:Expr->Option (Str×List Expr)
 | .Call (.Name x _) es [] _=>some (x,es)|_=>none
def oN(S names:List (Str×NameKind)):List (Str×NameKind):=names.map λ(n,k)=>if(k== .free&&true&&S.lookup n==some .cell)then(n,.cell)else(n,k)
def frees(scope:Scope):List Str:=(scope.names.filter λy=>y.2== .free).map (·.1)
def slots(N:List Str):List Str->Option (List Nat)
 |[]=>some []|x::xs=>(slot N x).bind λi=>(slots N xs).map (i::·)
def zD(ct:Ct)(t:Str)(scope:Scope):Bool :=
 scope.kind== .function&&(scope.names.all λy=> !(y.2== .cell)||scope.names.lookup y.1==some .cell)&&(scope.names.all λy=> !(y.2== .local)||scope.names.lookup y.1==some .local) &&
 (scope.names.all λy=> !(y.2== .free)||(ct.S.lookup y.1==some .cell||ct.S.lookup y.1==some .free))&&decide (t::frees scope).Nodup&&(scope.names.lookup t==some .local||scope.names.lookup t==some .cell) &&
 (frees scope).all λx=>scope.names.lookup x==some .free
def blk(ct:Ct)(t:Str)(scope:Scope):Ct:=⟨t::frees scope,oN ct.S scope.names,ct.F,ct.G,ct.B,[]⟩
def jt(ct:Ct)(t a:Str)(scope:Scope):Bool :=
 scope.kind== .function&&(scope.names.all λy=> !(y.2== .cell)||scope.names.lookup y.1==some .cell)&&(scope.names.all λy=> !(y.2== .local)||scope.names.lookup y.1==some .local) &&
 (scope.names.all λy=> !(y.2== .free)||(ct.S.lookup y.1==some .cell||ct.S.lookup y.1==some .free))&&decide (t::a::frees scope).Nodup&&(scope.names.lookup t==some .local||scope.names.lookup t==some .cell)&&(scope.names.lookup a==some .local||scope.names.lookup a==some .cell) &&
 (frees scope).all λx=>scope.names.lookup x==some .free
def blk2(ct:Ct)(t a:Str)(scope:Scope):Ct:=⟨t::a::frees scope,oN ct.S scope.names,ct.F,ct.G,ct.B,[]⟩
def y9:List IE->DV
 |[]=>.nil|e::es=>.cons e (y9 es)
def tL:Expr->Option Str
 | .Name x _=>some x|_=>none
def jo:Expr->Option (Str×Str)
 | .Tuple c _ _=>(match c with
  |[a,b]=>(tL a).bind λx=>(tL b).map λy=>(x,y)|_=>none)
 |_=>none
def GO:Expr->Bool
 | .Subscript .. =>true|_=>false
def qe:Expr->Option Expr
 | .Call f c b a=>if c.isEmpty&&b.isEmpty then(match f with
  | .Attribute o m d=>if m==("items":Str)&&d.endLine==a.line&&(GO o||plainB o)then some o else none
  |_=>none)else none
 |_=>none
def xP:IE->Nat->Bool
 | .var i,j=>i==j|_,_=>false
def wV(a:List Comprehension):Option (Str×Str×Expr×List Expr):=match a with
 |[g]=>if g.is_async=0 then(jo g.target).map λw=>(w.1,w.2,g.iter,g.ifs)else none|_=>none
open H
def tK(h:tL e=some x):∃p,e=.Name x p:=by
 unfold tL at h
 split at h;ext h;show⟨_,rfl⟩;ext h
def Ej(h:((tL a).bind λx=>(tL b).map λy=>(x,y))=some q):∃p e,a=.Name q.1 p/\b=.Name q.2 e:=by
 cases c:tL a with
 |none=>rw[c]at h;ext h|some x =>
  cases d:tL b with
  |none=>rw[c,d]at h;ext h|some y =>rw[c,d]at h;ext h;let⟨p,rfl⟩:=tK c;let⟨e,rfl⟩:=tK d;exists p,e,rfl,rfl
def kU(h:jo e=some q):∃p a k b,e=.Tuple [.Name q.1 p,.Name q.2 a] k b:=by
 unfold jo at h
 split at h
 ·split at h
  ·let⟨p,a,rfl,rfl⟩:=Ej h
   exists p,a,_,_,rfl
  ·ext h
 ·ext h
open J
def yO{t:Str}(h:wV g=some (t,i,a,b)):∃j d l e,g=[⟨.Tuple [.Name t j,.Name i d] l e,a,b,0⟩]:=by
 match g,h with
 |[],h=>ext h|_::_::_,h=>ext h|[⟨tg,it,fs,as⟩],h =>
  let c :(if as=0 then(jo tg).map λw=>(w.1,w.2,it,fs)else none)=some (t,i,a,b):=h
  split at c
  ·rename_i m
   subst m
   cases f:jo tg with
   |none=>rw[f]at c;ext c|some w =>rw[f]at c;ext c;let⟨p,o,k,n,rfl⟩:=kU f;exists _,_,_,_,rfl
  ·ext c
def vx(h:qe e=some d):∃g a,e=.Call (.Attribute d "items" g) [] [] a/\(g.endLine==a.line)=true/\(GO d||plainB d)=true:=by
 unfold qe at h
 split at h
 ·rename_i f m l a
  split at h
  ·rename_i c
   rw[M8,List.isEmpty_iff,List.isEmpty_iff]at c;let⟨rfl,rfl⟩:=c
   split at h
   ·split at h
    ·rename_i c
     simp only[M8]at c;ext h;obtain⟨⟨b,i⟩,j⟩:=c;let b:=Nh b;subst b;exists _,_,rfl,i,j
    ·ext h
   ·ext h
  ·ext h
 ·ext h
open H
def oj(h:xP e j=true):e=.var j:=by
 unfold xP at h
 split at h
 ·let h:=Nh h
  subst h;rfl
 ·ext h
def wY(f:Str)(ct:Ct)(a:Expr)(b:List Comprehension)(scope:Scope):Option Expr:=if f==("sorted":Str)then(match b with
 |[g]=>(jo g.target).bind λq=>(qe g.iter).bind λd=>(jo a).bind λz =>
   if plainB d&&g.ifs.isEmpty&&z.1==q.2&&z.2==q.1&&g.is_async==0&&jt ct q.1 q.2 scope&&decide (frees scope=[])&&xP (dS (blk2 ct q.1 q.2 scope) q.1) 0&&xP (dS (blk2 ct q.1 q.2 scope) q.2) 1 then some d else none
 |_=>none)else none
open J
def yR{ct:Ct}{scope:Scope}(h:wY f ct a r scope=some d):f=("sorted":Str)/\plainB d=true/\∃x y v u k w l i n o p s,a=.Tuple [.Name y n,.Name x o] p s /\ r=[⟨.Tuple [.Name x v,.Name y u] k w,.Call (.Attribute d "items" l) [] [] i,[],0⟩]/\(l.endLine==i.line)=true /\ jt ct x y scope=true/\frees scope=[]/\dS (blk2 ct x y scope) x=.var 0/\dS (blk2 ct x y scope) y=.var 1:=by
 show Oe λno=> ?_;unfold wY at h
 split at h
 ·rename_i U
  split at h
  ·rename_i g
   obtain⟨E,it,m,J⟩:=g;cases b:jo E with
   |none=>rw[b]at h;ext h|some q =>
    cases e:qe it with
    |none=>rw[b,e]at h;ext h|some d' =>
     cases j:jo a with
     |none=>rw[b,e,j]at h;ext h|some z =>
      rw[b,e,j]at h;simp only[NU]at h
      split at h
      ·rename_i c
       ext h;simp only[M8]at c;obtain⟨⟨⟨⟨⟨⟨⟨⟨R,T⟩,K⟩,S⟩,H⟩,N⟩,O⟩,Z⟩,L⟩:=c;obtain⟨W,D⟩:=q;obtain⟨M,Q⟩:=z;let C:=Nh K;let I:=Nh S;let A:=Nh H;let X:=List.isEmpty_iff.mp T;subst C;subst I;subst A;subst X;let⟨v,u,k,w,rfl⟩:=kU b;let⟨l,i,rfl,Y,e2⟩:=vx e;let⟨n,o,p,s,rfl⟩:=kU j;show no ⟨Nh U,R,_,_,_,_,_,_,_,_,_,_,_,_,rfl,rfl,Y,N,Nj O,oj Z,oj L⟩
      ·ext h
  ·ext h
 ·ext h
mutual
noncomputable def ai:Nat->Ct->Expr->IE
 | 0,_,_=>.never
 | n+1,ct,e=>match e with
  | .Constant c _ _=>pM c
  | .Name x _=>dS ct x
  | .BinOp a op b _=>.bin op (ai n ct a) (ai n ct b)
  | .UnaryOp op a _=>match op with
   | .USub=>.neg (ai n ct a)
   | .Not=>.not (ai n ct a)
   | _=>.never
  | .Compare a ops cs _=>match ops,cs with
   | [op],[b]=>if cZ b then .never else .cmp op (ai n ct a) (ai n ct b)
   | [op,op'],[b,c]=>if cZ c|| !xA op' then .never else .chn op op' (ai n ct a) (ai n ct b) (ai n ct c)
   | _,_=>.never
  | .BoolOp op vs _=>if vs.length<2 then .never else mX op (vs.map (ai n ct))
  | .IfExp c a b _=>.ite (n6 n ct c) (ai n ct a) (ai n ct b)
  | .List es _=>.lst (eX n ct es)
  | .Tuple es _ _=>.tup (eX n ct es)
  | .Dict ks vs _=>match ks,vs with
   | [],[]=>.dnew
   | [some (.Constant c _ _)],[v]=>match c with
    | .int i=>.dlit (.inl i) (ai n ct v)
    | .str z=>.dlit (.inr z) (ai n ct v)
    | _=>.never
   | _,_=>.never
  | .Subscript a i _=>match i with
   | .Slice lo hi st _=>match st with
    | none=>.sl (ai n ct a) (GJ n ct lo) (GJ n ct hi)
    | some st=>match lo,hi,st with
     | none,none,.UnaryOp .USub (.Constant (.int 1) _ _) _=>.rev (ai n ct a)
     | _,_,_=>.never
   | i=>.ix (ai n ct a) (ai n ct i)
  | .Call f es ks cp=>match ks with
   | []=>match f with
    | .Name x _=>kP n ct x es
    | .Attribute o m ap=>if ap.endLine==cp.line then nz n ct o m es else .never
    | _=>.never
   | _=>.never
  | .ListComp elt gs scope _=>match gs with
   | [⟨.Name t _,iter,ifs,0⟩]=>if zD ct t scope then(match slots ct.N (frees scope)with
    | some caps=>.lc (ai n (blk ct t scope) elt) (AZ n ct false iter) (match ifs with
     | []=>.no
     | [c]=>.yes (n6 n (blk ct t scope) c)
     | _=>.yes (.val .never)) caps
    | none=>.never)else .never
   | gs=>(match wV gs with
    | some (t,t2,iter,ifs)=>if jt ct t t2 scope then(match slots ct.N (frees scope)with
     | some caps=>.lc2 (ai n (blk2 ct t t2 scope) elt) (AZ n ct true iter) (match ifs with
      | []=>.no
      | [c]=>.yes (n6 n (blk2 ct t t2 scope) c)
      | _=>.yes (.val .never)) caps
     | none=>.never)else .never
    | none=>.never)
  | _=>.never
noncomputable def eX:Nat->Ct->List Expr->DV
 | 0,_,_=>.cons .never .nil
 | n+1,ct,es=>y9 (es.map fun e=>if aV e then .never else ai n ct e)
noncomputable def GJ:Nat->Ct->Option Expr->IO
 | 0,_,_=>.yes .never
 | n+1,ct,e=>match e with
  | none=>.no
  | some e=>.yes (ai n ct e)
noncomputable def n6:Nat->Ct->Expr->IC
 | 0,_,_=>.val .never
 | n+1,ct,e=>match e with
  | .UnaryOp op a p=>match op with
   | .Not=>.not (n6 n ct a)
   | op=>.val (ai n ct (.UnaryOp op a p))
  | .BoolOp op vs _=>mW op (vs.map (n6 n ct))
  | .IfExp _ _ _ _=>.val .never
  | e=>.val (ai n ct e)
noncomputable def kP:Nat->Ct->Str->List Expr->IE
 | 0,_,_,_=>.never
 | n+1,ct,x,es=>if xE x then .never else if ct.S.lookup x==some .globalImplicit then(match ct.F.lookup x with
  | some f=>match es with
   | []=>.never
   | es=>.call f (eX n ct es)
  | none=>if ct.B.contains x then(if x==("isinstance":Str)then(match es with
    | [a,.Name t _]=>match AS t with
     | some ty=>if aV a then .never else if own ct t then .bf (.isin ty) (.cons (ai n ct a) .nil)else .never
     | none=>.never
    | _=>.never)else match es with
     | [.Call (.Name y _) [a] [] _]=>(match xF x y with
      | some f=>if aV a|| !own ct y then .never else .bf f (.cons (ai n ct a) .nil)
      | none=>match ik x es.length with
       | some f=>.bf f (eX n ct es)
       | none=>.never)
     | [.Call (.Attribute o m ap) [] [] cp]=>if x==("sum":Str)&&m==("values":Str)&&plainB o&&ap.endLine==cp.line then .bf .sumv (.cons (ai n ct o) .nil)else if x==("list":Str)&&m==("values":Str)&&plainB o&&ap.endLine==cp.line then .bf .lvals (.cons (ai n ct o) .nil)else(match ik x es.length with
      | some f=>.bf f (eX n ct es)
      | none=>.never)
     | [.ListComp elt gs scope _]=>(match wY x ct elt gs scope with
      | some d=>.bf .sorted (.cons (.lcs (ai n ct d)) .nil)
      | none=>match ik x es.length with
       | some f=>.bf f (eX n ct es)
       | none=>.never)
     | es=>match ik x es.length with
      | some f=>.bf f (eX n ct es)
      | none=>.never)else .never)else .never
noncomputable def nz:Nat->Ct->Expr->Str->List Expr->IE
 | 0,_,_,_,_=>.never
 | n+1,ct,o,m,es=>if plainB o then(match es with
  | [a]=>if aV a then .never else if m==("join":Str)then .mth .join (ai n ct o) (.cons (ai n ct a) .nil)else if m==("count":Str)then .mth .count (ai n ct o) (.cons (ai n ct a) .nil)else if m==("index":Str)then .mth .index (ai n ct o) (.cons (ai n ct a) .nil)else if m==("split":Str)then .mth .split (ai n ct o) (.cons (ai n ct a) .nil)else .never
  | _=>.never)else .never
noncomputable def AZ:Nat->Ct->Bool->Expr->IT
 | 0,_,_,_=>.never
 | n+1,ct,tp,e=>if cZ e then .never else match qk e with
  | some (x,es)=>if x==("range":Str)then(if own ct x then .rng (eX n ct es)else .never)else if x==("zip":Str)then .never else if x==("enumerate":Str)then(match es with
    | [a]=>if aV a|| !tp|| !own ct x then .never else .enum (ai n ct a)
    | _=>.never)else .seq (ai n ct e)
  | none=>.seq (ai n ct e)
end
def lJ:Nat->Ct->Expr->List Nat
 |0,_,_=>[]|n+1,ct,e=>match e with
  | .Name x _=>(slot ct.N x).toList| .List c _=>c.flatMap (lJ n ct)| .Tuple c _ _=>c.flatMap (lJ n ct)| .IfExp _ a b _=>lJ n ct a++lJ n ct b|_=>[]
def nY:Nat->Ct->Expr->List Nat
 |0,_,_=>[]|n+1,ct,e=>match e with
  | .Name x _=>(slot ct.N x).toList| .List c _=>c.flatMap (nY n ct)| .Tuple c _ _=>c.flatMap (nY n ct)| .BinOp a _ b _=>nY n ct a++nY n ct b| .IfExp _ a b _=>nY n ct a++nY n ct b| .Call (.Name x _) c _ _=>if x==("tuple":Str)||x==("list":Str)||x==("sorted":Str)then c.flatMap (nY n ct)else[]
  | .ListComp _ d _ _=>d.flatMap λg=>nY n ct g.iter|_=>[]
def MU(ct:Ct)(x:Str)(e:Expr):List Nat:=match e with
 | .BinOp (.Name y _) .Add (.List _ _) _=>(slot ct.N y).toList| .BinOp (.Name y _) .Add _ _=>if y==x then(slot ct.N x).toList else[]|_=>[]
def MV(n:Nat)(ct:Ct)(e:Expr):List Nat:=match qk e with
 |some (x,es)=>if x==("zip":Str)||x==("enumerate":Str)||x==("reversed":Str)then es.flatMap (lJ n ct)else[]
 |none=>lJ n ct e
def loc(ct:Ct)(x:Str):Option Nat:=if(ct.S.lookup x==some .local||ct.S.lookup x==some .cell)&& !xE x then slot ct.N x else none
def isComp:Expr->Bool
 | .ListComp .. =>true| .SetComp .. =>true| .DictComp .. =>true|_=>false
def BC:Option Expr->Option Expr->Option Str
 |some (.Call (.Name x _) [] [] _),none=>some x|_,_=>none
def locs(ct:Ct):List Expr->Option (List Nat)
 |[]=>some []| .Name x _::es=>(loc ct x).bind λi=>(locs ct es).map (i::·)|_::_=>none
def AY(ct:Ct):Expr->Option (List Nat×Bool)
 | .Name x _=>(loc ct x).map λi=>([i],true)| .Tuple a _ _=>(locs ct a).map λis=>(is,false)|_=>none
mutual
noncomputable def uk:Nat->Ct->Stmt->IS
 | 0,_,_=>.never
 | n+1,ct,s=>match s with
  | .Return v _=>match v with
   | some e=>.ret (nY n ct e) (ai n ct e)
   | none=>.retN
  | .Assign ts e _=>match ts with
   | [.Name x _]=>match loc ct x with
    | some i=>.asg i (ct.M.contains i) (MU ct x e++lJ n ct e) (ai n ct e)
    | none=>.never
   | [.Subscript (.Name x _) k _]=>match loc ct x with
    | some i=>if fQ k||isComp e then .never else .seti i (lJ n ct e) (ai n ct k) (ai n ct e)
    | none=>.never
   | _=>.never
  | .If c a b _=>.ife (n6 n ct c) (fw n ct a) (fw n ct b)
  | .For tg it body els _=>match els with
   | []=>match AY ct tg with
    | some (is,one)=>.forr is one (MV n ct it) (AZ n ct (!one) it) (fw n ct body)
    | none=>.never
   | _=>.never
  | .While c body els _=>match els with
   | []=>.whil (n6 n ct c) (fw n ct body)
   | _=>.never
  | .Pass _=>.pass
  | .Break _=>.brk
  | .Continue _=>.cont
  | .Expr e _=>match e with
   | .Call (.Attribute (.Name x _) m ap) es [] cp=>if ap.endLine==cp.line then(match loc ct x with
    | some i=>(match es with
     | [a]=>if aV a then .never else if m==("append":Str)then .app i (lJ n ct a) (ai n ct a)else .never
     | _=>.never)
    | none=>.never)else .never
   | _=>.never
  | .Raise e c _=>match BC e c with
   | some x=>if ct.S.lookup x==some .globalImplicit&& !xE x then .rais x else .never
   | none=>.never
  | .AugAssign t op e _=>match t with
   | .Name x _=>match loc ct x with
    | some i=>.aug i op (ai n ct e)
    | none=>.never
   | _=>.never
  | _=>.never
noncomputable def fw:Nat->Ct->List Stmt->uu
 | 0,_,_=>.cons .never .nil
 | n+1,ct,ss=>match ss with
  | []=>.nil
  | s::ss=>.cons (uk n ct s) (fw n ct ss)
end
section
set_option autoImplicit true
set_option relaxedAutoImplicit true
variable{n:Nat}{ct:Ct}
def rR:ai 0 w0 w1=.never:=rfl
def rM:ai (n+1) ct (.Constant c w1 w2)=(pM c):=rfl
def rG:ai (n+1) ct (.Name x w1)=(dS ct x):=rfl
def rQ:ai (n+1) ct (.BinOp a op b w1)=(.bin op (ai n ct a) (ai n ct b)):=rfl
def rD:ai (n+1) ct (.UnaryOp op a w1)=(match op with
   | .USub=>.neg (ai n ct a)| .Not=>.not (ai n ct a)|_=>.never):=rfl
def rN:ai (n+1) ct (.Compare a ops cs w1)=(match ops,cs with
   |[op],[b]=>if cZ b then .never else .cmp op (ai n ct a) (ai n ct b)|[op,op'],[b,c]=>if cZ c|| !xA op' then .never else .chn op op' (ai n ct a) (ai n ct b) (ai n ct c)
   |_,_=>.never):=rfl
def rP:ai (n+1) ct (.BoolOp op vs w1)=(if vs.length<2 then .never else mX op (vs.map (ai n ct))):=rfl
def rK:ai (n+1) ct (.IfExp c a b w1)=(.ite (n6 n ct c) (ai n ct a) (ai n ct b)):=rfl
def rJ:ai (n+1) ct (.List es w1)=(.lst (eX n ct es)):=rfl
def rE:ai (n+1) ct (.Tuple es w1 w2)=(.tup (eX n ct es)):=rfl
def rL:ai (n+1) ct (.Dict ks vs w1)=(match ks,vs with
   |[],[]=>.dnew|[some (.Constant c _ _)],[v]=>match c with
    | .int i=>.dlit (.inl i) (ai n ct v)| .str z=>.dlit (.inr z) (ai n ct v)|_=>.never
   |_,_=>.never):=rfl
def rF:ai (n+1) ct (.Subscript a i w1)=(match i with
   | .Slice c d b _=>match b with
    |none=>.sl (ai n ct a) (GJ n ct c) (GJ n ct d)|some b=>match c,d,b with
     |none,none,.UnaryOp .USub (.Constant (.int 1) _ _) _=>.rev (ai n ct a)|_,_,_=>.never
   |i=>.ix (ai n ct a) (ai n ct i)):=rfl
def rO:ai (n+1) ct (.Call f es ks cp)=(match ks with
   |[]=>match f with
    | .Name x _=>kP n ct x es| .Attribute o m a=>if a.endLine==cp.line then nz n ct o m es else .never|_=>.never
   |_=>.never):=rfl
def rH:ai (n+1) ct (.ListComp elt gs scope w1)=(match gs with
   |[⟨.Name t _,iter,ifs,0⟩]=>if zD ct t scope then(match slots ct.N (frees scope)with
    |some a=>.lc (ai n (blk ct t scope) elt) (AZ n ct false iter) (match ifs with
     |[]=>.no|[c]=>.yes (n6 n (blk ct t scope) c)|_=>.yes (.val .never)) a
    |none=>.never)else .never
   |gs=>(match wV gs with
    |some (t,t2,iter,ifs)=>if jt ct t t2 scope then(match slots ct.N (frees scope)with
     |some a=>.lc2 (ai n (blk2 ct t t2 scope) elt) (AZ n ct true iter) (match ifs with
      |[]=>.no|[c]=>.yes (n6 n (blk2 ct t t2 scope) c)|_=>.yes (.val .never)) a
     |none=>.never)else .never
    |none=>.never)):=rfl
def z29:eX 0 w0 w1=.cons .never .nil:=rfl
def z2a:eX (n+1) ct es=(y9 (es.map λe=>if aV e then .never else ai n ct e)):=rfl
def z2d:GJ 0 w0 w1=.yes .never:=rfl
def Kb:n6 0 w0 w1=.val .never:=rfl
def KY:n6 (n+1) ct (.UnaryOp op a p)=(match op with
   | .Not=>.not (n6 n ct a)|op=>.val (ai n ct (.UnaryOp op a p))):=rfl
def Ka:n6 (n+1) ct (.BoolOp op vs w1)=(mW op (vs.map (n6 n ct))):=rfl
def KZ:n6 (n+1) ct (.IfExp w1 w2 w3 w4)=(.val .never):=rfl
def z1p:kP 0 w0 w1 w2=.never:=rfl
def z1q:kP (n+1) ct x es=(if xE x then .never else if ct.S.lookup x==some .globalImplicit then(match ct.F.lookup x with
  |some f=>match es with
   |[]=>.never|es=>.call f (eX n ct es)
  |none=>if ct.B.contains x then(if x==("isinstance":Str)then(match es with
    |[a,.Name t _]=>match AS t with
     |some b=>if aV a then .never else if own ct t then .bf (.isin b) (.cons (ai n ct a) .nil)else .never|none=>.never
    |_=>.never)else match es with
     |[.Call (.Name y _) [a] [] _]=>(match xF x y with
      |some f=>if aV a|| !own ct y then .never else .bf f (.cons (ai n ct a) .nil)
      |none=>match ik x es.length with
       |some f=>.bf f (eX n ct es)|none=>.never)
     |[.Call (.Attribute o m ap) [] [] cp]=>if x==("sum":Str)&&m==("values":Str)&&plainB o&&ap.endLine==cp.line then .bf .sumv (.cons (ai n ct o) .nil)else if x==("list":Str)&&m==("values":Str)&&plainB o&&ap.endLine==cp.line then .bf .lvals (.cons (ai n ct o) .nil)else(match ik x es.length with
      |some f=>.bf f (eX n ct es)|none=>.never)
     |[.ListComp elt gs scope _]=>(match wY x ct elt gs scope with
      |some d=>.bf .sorted (.cons (.lcs (ai n ct d)) .nil)|none=>match ik x es.length with
       |some f=>.bf f (eX n ct es)|none=>.never)
     |es=>match ik x es.length with
      |some f=>.bf f (eX n ct es)|none=>.never)else .never)else .never):=rfl
def z2b:nz 0 w0 w1 w2 w3=.never:=rfl
def z2c:nz (n+1) ct o m es=(if plainB o then(match es with
  |[a]=>if aV a then .never else if m==("join":Str)then .mth .join (ai n ct o) (.cons (ai n ct a) .nil)else if m==("count":Str)then .mth .count (ai n ct o) (.cons (ai n ct a) .nil)else if m==("index":Str)then .mth .index (ai n ct o) (.cons (ai n ct a) .nil)else if m==("split":Str)then .mth .split (ai n ct o) (.cons (ai n ct a) .nil)else .never|_=>.never)else .never):=rfl
def z2v:AZ 0 w0 w1 w2=.never:=rfl
def z2w:AZ (n+1) ct tp e=(if cZ e then .never else match qk e with
  |some (x,es)=>if x==("range":Str)then(if own ct x then .rng (eX n ct es)else .never)else if x==("zip":Str)then .never else if x==("enumerate":Str)then(match es with
    |[a]=>if aV a|| !tp|| !own ct x then .never else .enum (ai n ct a)
    |_=>.never)else .seq (ai n ct e)
  |none=>.seq (ai n ct e)):=rfl
def yM:uk 0 w0 w1=.never:=rfl
def yB:uk (n+1) ct (.Return v w1)=(match v with
   |some e=>.ret (nY n ct e) (ai n ct e)|none=>.retN):=rfl
def yK:uk (n+1) ct (.Assign ts e w1)=(match ts with
   |[.Name x _]=>match loc ct x with
    |some i=>.asg i (ct.M.contains i) (MU ct x e++lJ n ct e) (ai n ct e)|none=>.never
   |[.Subscript (.Name x _) k _]=>match loc ct x with
    |some i=>if fQ k||isComp e then .never else .seti i (lJ n ct e) (ai n ct k) (ai n ct e)
    |none=>.never
   |_=>.never):=rfl
def yE:uk (n+1) ct (.If c a b w1)=(.ife (n6 n ct c) (fw n ct a) (fw n ct b)):=rfl
def yF:uk (n+1) ct (.For tg it body els w1)=(match els with
   |[]=>match AY ct tg with
    |some (is,one)=>.forr is one (MV n ct it) (AZ n ct (!one) it) (fw n ct body)|none=>.never
   |_=>.never):=rfl
def yA:uk (n+1) ct (.While c body els w1)=(match els with
   |[]=>.whil (n6 n ct c) (fw n ct body)|_=>.never):=rfl
def yD:uk (n+1) ct (.Pass w1)=(.pass):=rfl
def yI:uk (n+1) ct (.Break w1)=(.brk):=rfl
def yH:uk (n+1) ct (.Continue w1)=(.cont):=rfl
def yG:uk (n+1) ct (.Expr e w1)=(match e with
   | .Call (.Attribute (.Name x _) m ap) es [] cp=>if ap.endLine==cp.line then(match loc ct x with
    |some i=>(match es with
     |[a]=>if aV a then .never else if m==("append":Str)then .app i (lJ n ct a) (ai n ct a)else .never|_=>.never)
    |none=>.never)else .never
   |_=>.never):=rfl
def yC:uk (n+1) ct (.Raise e c w1)=(match BC e c with
   |some x=>if ct.S.lookup x==some .globalImplicit&& !xE x then .rais x else .never|none=>.never):=rfl
def yJ:uk (n+1) ct (.AugAssign t op e w1)=(match t with
   | .Name x _=>match loc ct x with
    |some i=>.aug i op (ai n ct e)|none=>.never
   |_=>.never):=rfl
def z2g:fw 0 w0 w1=.cons .never .nil:=rfl
def z2h:fw (n+1) ct (s::ss)=(.cons (uk n ct s) (fw n ct ss)):=rfl
end
end IR
namespace L2
open PySem PySem.Spec PyProof.Rows
section
variable{X:Cx}
open H
def xC:fH X (binaryOp .Add) (λx y H Q=>∃(l b:Addr)(j i:List V),x=.ref l/\y=.ref b/\bG X.K H l j/\bG X.K H b i/\j.length+i.length<=sizeLine/\∀p,H p=none->Q (.ref p) (upd H p (.lst (j++i)))):=by
 intro D s Z H x y v u Q I R Y h;show X_41 (λl b j i=>X_06 λR4 R5 S M hz q=> ?_) h;subst R4 R5;ext R;ext Y;let⟨c,r,N,_⟩:=I.list S;let⟨a,L,z,_⟩:=I.list M;let hl:=r.length;let T:=L.length;obtain⟨⟨cls,O,data,U⟩,J,A,n,C⟩:=id N.isList;obtain⟨⟨E,m,o,w⟩,d,g,W,f⟩:=id z.isList;subst A C g f;let e:c.toArray++a.toArray=(c++a).toArray:=by simp
 show concat_meets ⟨_,J,rfl⟩ ⟨_,d,rfl⟩ noFill_list_add seq_list_add PySem.F.slot_list_add PySem.F.entry_list_add (PySem.F.args_list_add_2 _ _) (list_addW l b c.toArray a.toArray n W O m U w (by rw[NM,NM];lia)) ⟨J,d,?_⟩;rw[e];exists .ref _,_,I.lnew (r.append L) (by rw[NO];lia),rfl,q _ I.fresh
end
end L2
namespace IR
open PySem PySem.Spec PyProof.Rows L2
abbrev WE(X:Cx)(e:Expr)(b:L2.St)(H:Hp)(Q:VK):Prop:=∀(a:List (Addr×Obj))(s:Shared),Inv X a b H s->wpAny (model X.prog X.w) X.A (eval e X.env) (EP X a b Q) X.xe s
abbrev WT(X:Cx)(e:Expr)(b:L2.St)(H:Hp)(Q:Bool->Hp->Prop):Prop:=∀(a:List (Addr×Obj))(s:Shared),Inv X a b H s->wpAny (model X.prog X.w) X.A (isTrue e X.env (eval e X.env)) (TP X a b Q) X.xe s
abbrev WA(X:Cx)(c:List Expr)(b:L2.St)(H:Hp)(Q:List V->Hp->Prop):Prop:=∀(pos:Pos)(a:List (Addr×Obj))(s:Shared),Inv X a b H s->wpAny (model X.prog X.w) X.A (spliced (backTo pos (starEach c X.env))) (AP X a b Q) X.xe s
theorem aT:PE X e (λσ H Q=>WE X e σ H Q):=λpins s σ H Q I h=>h pins s I
theorem nN:PT X e (λσ H Q=>WT X e σ H Q):=λpins s σ H Q I h=>h pins s I
theorem vP:PA X e (λσ H Q=>WA X e σ H Q):=λpos pins s σ H Q I h=>h pos pins s I
theorem we{t:TE}(h:PE X e t)(q:t a H Q):WE X e a H Q:=λpins s I=>h pins s a H Q I q
theorem wt{t:TT}(h:PT X e t)(q:t a H Q):WT X e a H Q:=λpins s I=>h pins s a H Q I q
theorem wa{t:TA}(h:PA X e t)(q:t a H Q):WA X e a H Q:=λpos pins s I=>h pos pins s a H Q I q
def pS(K:W.Frag)(m:List PV->Option PV):Sp:=λvs H Q _=>∃a r,aG K H false a H vs/\m a=some r/\∀u b,aD H b ->Rp K H true r b u->Q u b
structure bj(cd:Nat->List PV->Option PV)(X:Cx)(ct:Ct):Prop where
 N:X.N=ct.N
 nd:ct.N.Nodup
 S:X.env.scope.names=ct.S
 kind:X.env.scope.kind=.function
 calm:X.calm=true
 glob:∀x v,ct.G.lookup x=some v->∃u w,X.mg x=some u/\RelV w u/\∀Hi n H,Rp X.K Hi n v H w
 bl:∀x,ct.B.contains x=true->X.mg x=none
 fns:∀x f,ct.F.lookup x=some f->∃k a fd ps,bI X.prog X.w X.K X.mg X.base eU k a fd ps (pS X.K (cd f))/\ck k X.A/\X.mg x=some (.ref a)/\W.keepIn X.K (.ref a)=true/\Binds X.K fd ps []
 xe:PassesOwn (model X.prog X.w) X.A X.env X.xe
 un:X.A.units+64<cLine
section
variable{X:Cx}{Hi:Hp}{τ:En}
variable(X Hi τ)in
def aL(e:Expr)(r:RV):Prop:=∀(O:List Addr)(b:L2.St)(H:Hp)(Q:VK),aY X.K Hi O τ b H->(∀u a,aD H a ->ag X.K Hi O H a r u->Q u a)->WE X e b H Q
variable(X Hi τ)in
def fm(e:Expr)(b:Bool):Prop:=∀(O:List Addr)(a:L2.St)(H:Hp)(Q:Bool->Hp->Prop),aY X.K Hi O τ a H->(∀c,aD H c ->Q b c)->WT X e a H Q
variable(X Hi)in
def di(O:List Addr)(H b :Hp):List RV->List V->Prop
 |[],us=>us=[]|r::rs,us=>∃u a,us=u::a/\ag X.K Hi O H b r u/\di O H b rs a
variable(X Hi τ)in
def qx(d:List Expr)(c:List RV):Prop:=∀(O:List Addr)(b:L2.St)(H:Hp)(Q:List V->Hp->Prop),aY X.K Hi O τ b H->(∀us a,aD H a ->di X Hi O H a c us->Q us a)->WA X d b H Q
theorem eZ:sizeLine=16777216:=N4
open H
theorem di.back{O:List Addr}{d H f :Hp}(s:aD d H):∀{c:List RV}{us:List V},di X Hi O H f c us->di X Hi O d f c us
 |[],_,h=>h|r::c,_,h=>by let⟨u,g,e,a,b⟩:=h;exists u,g,e,a.back s,di.back s b
theorem di.vals{O:List Addr}{e:L2.St}{H d :Hp}(R:aY X.K Hi O τ e H)(s:aD H d):∀{c:List RV}{us:List V},di X Hi O H d c us->aG X.K Hi false (c.map RV.val) d us
 |[],_,h=>by ext h;show .nil|r::c,_,h=>by let⟨u,f,rfl,a,b⟩:=h;show .cons (a.val R s) (di.vals R s b)
theorem di.keeps{O:List Addr}{j:L2.St}{H i :Hp}(R:aY X.K Hi O τ j H)(s:aD H i):∀{c:List RV}{us:List V}{f:List PV}{n:Bool},di X Hi O H i c us->IR.keeps c=some (f,n)->aG X.K Hi n f (aW i O) us
 |[],_,_,_,h,e=>by ext h;ext e;show .nil|r::c,_,f,n,h,e=>by
  let⟨u,q,rfl,a,b⟩:=h;unfold IR.keeps at e;cases g:r.keep with
  |none=>rw[g]at e;ext e|some p =>
   obtain⟨v,m⟩:=p;rw[g]at e;cases d:IR.keeps c with
   |none=>rw[d]at e;ext e|some p =>
    obtain⟨l,o⟩:=p;rw[d]at e;ext e;show .cons ((a.keep R s g).low λz=> ?_) ((di.keeps R s b d).low λz=> ?_)
    ·rw[M8]at z;show z.1
    ·rw[M8]at z;show z.2
theorem iD(h:∀G,Rp X.K Hi true v G u):ag X.K Hi O H a (sc v) u:=h _
def Cu{k:Nat}(h:aX a (pM c) τ=some r):aL X Hi τ (.Constant c k pos) r:=by
 intro O d H Q R q;cases c with
 |int i =>ext h;show we aa (q _ _ (aD.refl _) (iD λ_=>Rp.int.mpr rfl))
 |bool b =>ext h;show we w5 (q _ _ (aD.refl _) (iD λ_=>Rp.bl.mpr rfl))
 |str b =>ext h;show we gI (q _ _ (aD.refl _) (iD λ_=>Rp.str.mpr rfl))
 |none =>ext h;show we IB (q _ _ (aD.refl _) (iD λ_=>Rp.non.mpr rfl))
 |_=>ext h
def pJ(e:a.names=S)(h:Gy S x=true):KS a x:=by
 unfold Gy at h;unfold KS;rw[e]
 simpa [Od,or_assoc]using h
def cQ(h:xE x=false):(x==("__debug__":Str))=false/\(x==("__classdict__":Str))=false/\x≠"__name__":=by unfold xE at h;simp only[Bool.or_eq_false_iff]at h;show⟨h.1.1,h.1.2,λe=>by rw[e]at h;simp at h⟩
open J in
def qD{ct:Ct}(C:bj I X ct)(h:aX I (dS ct x) τ=some r):aL X Hi τ (.Name x pos) r:=by
 intro O U H Q R q;unfold dS at h
 split at h;simp[dc]at h
 rename_i L;let⟨E,M,W⟩:=cQ (Oc.mpr L)
 split at h
 ·rename_i J
  cases m:slot ct.N x with
  |none=>rw[m]at h;simp[dc]at h|some i =>
   rw[m]at h;let h:lI τ i=some r:=by simpa [cw,cy,dP,dE,dN,dO,dR,dY,dZ,dL,cL,dQ,cu,dF,cz,de,dM,dJ,dA,dB,dI,dH,dG,dc]using h
   show we (mF (by rw[C.N];show gp m) (pJ C.S J) E M) ?_;unfold lI at h;cases f:τ[i]? with
   |none=>rw[f]at h;ext h|some t =>
    rw[f]at h;cases t with
    |un=>ext h|frz v n =>ext h;let⟨u,a,d⟩:=R.frz i v n f;exists u,a,q u H (aD.refl _) d
    |own y n =>
     ext h;let⟨l,us,a,d,j,D⟩:=R.owns i y n f;exists _,a,q _ H (aD.refl _) ?_;show Rp.lst.mpr (Y_24 l us rfl (λz=>absurd z ND) (bG.of j) (D.weak.mono λb o e=> ?_));unfold aW at e
     split at e;ext e
     ·rename_i p
      unfold del;let A:b≠l:=λz=>p (z▸d);rwa[NJ A]
    |owd b y n =>
     ext h;let⟨l,us,o,a,d,j,T,D⟩:=R.obs i _ b y n f rfl;exists _,a,q _ H (aD.refl _) ?_;show Rp.at (λz=>absurd z ND) j T (D.weak.mono λc o e=> ?_);unfold aW at e
     split at e;ext e
     ·rename_i p
      unfold del;let A:c≠l:=λz=>p (z▸d);rwa[NJ A]
 ·split at h
  ·rename_i K
   cases s:ct.G.lookup x with
   |none=>rw[s]at h;simp[dc]at h|some v =>
    rw[s]at h;let h:some (sc v)=some r:=by simpa [cw,cy,dP,dE,dN,dO,dR,dY,dZ,dL,cL,dQ,cu,dF,cz,de,dM,dJ,dA,dB,dI,dH,dG,dc]using h
    ext h;let⟨u,w,a,d,j⟩:=C.glob x v s;let g:Gl X x:=by
     change X.env.scope.names.lookup x=_;rw[C.S]
     simpa using K
    show we (EX g a d E) (q _ _ (aD.refl _) (iD λ_=>j _ _ _))
  ·simp[dc]at h
def nB(i:fH X (binaryOp f) g)(j:aL X Hi τ a x)(h:aL X Hi τ b y)
  (k:∀(O:List Addr)(d:L2.St)(H c:Hp)(u v:V)(Q:VK),aY X.K Hi O τ d H->aD H c->ag X.K Hi O H c x u->ag X.K Hi O H c y v->(∀w e,aD c e->ag X.K Hi O H e r w->Q w e)->g u v c Q) :
  aL X Hi τ (.BinOp a f b pos) r:=by
 intro O d H Q R q;show we (bS i aT aT) ?_;show j O d H _ R λu H1 s1 r1=>h O d H1 _ (R.ext s1) λv c s2 r2=> ?_;show k O d H c u v Q R (s1.trans s2) (r1.ext s2) (r2.back s1) λw e s3 r3=>q w e (s1.trans (s2.trans s3)) r3
def ag.int(R:aY X.K Hi O τ b H)(s:aD H a)(h:ag X.K Hi O H a x u)(e:x.val=.int i):u=.int i:=by let z:=h.val R s;rw[e]at z;show Rp.int.mp z
def ag.str(R:aY X.K Hi O τ b H)(s:aD H a)(h:ag X.K Hi O H a x u)(e:x.val=.str i):u=.str i:=by let z:=h.val R s;rw[e]at z;show Rp.str.mp z
def ag.bl(R:aY X.K Hi O τ b H)(s:aD H a)(h:ag X.K Hi O H a x u)(e:x.val=.bl i):u=.bl i:=by let z:=h.val R s;rw[e]at z;show Rp.bl.mp z
def ag.tup{O:List Addr}{c:L2.St}{H a :Hp}{x:RV}{u:V}{b:List PV}(R:aY X.K Hi O τ c H)(s:aD H a)(h:ag X.K Hi O H a x u)(e:x.val=.tup b):∃p us,u=.ref p/\dg X.K a p us/\aG X.K Hi false b a us:=by let z:=h.val R s;rw[e]at z;show Rp.tup.mp z
def ag.lst{O:List Addr}{c:L2.St}{H a :Hp}{x:RV}{u:V}{b:List PV}(R:aY X.K Hi O τ c H)(s:aD H a)(h:ag X.K Hi O H a x u)(e:x.val=.lst b):∃p us,u=.ref p/\bG X.K a p us/\aG X.K Hi false b a us:=by let z:=h.val R s;rw[e]at z;let⟨p,us,d,_,f,g⟩:=Rp.lst.mp z;exists p,us,d,f,g.mono bZ
def ag.itsL(R:aY X.K Hi O τ d H)(s:aD H b)(h:ag X.K Hi O H b r u)(e:r.its=some (c,n))(f:r.val=.lst g) :
  ∃p us,u=.ref p/\bG X.K b p us/\aG X.K Hi n c (aW b O) us:=by
 let⟨p,us,i,a,j⟩:=h.its R s e
 rcases a with⟨a,_⟩|⟨_,l,a⟩
 ·exists p,us,i,a,j
 ·rw[f]at a
  ext a
def cC{us:List V}(s:aD H a)(d:a p=none)(r:aG X.K Hi n b (aW a O) us):ag X.K Hi O H (L2.upd a p (.lst us)) (.own b n) (.ref p):=by exists p,us,rfl,s.free d,aB,r.mono (aO λb o e=> ?_);let c:=aE e d;unfold del;rwa[NJ c,aA c]
def xU{o:HO}(R:aY X.K Hi O τ c H)(s:aD H a)(b:a p=none):aW (L2.upd a p o) O p=some o:=by
 unfold aW;rw[NJ λz=> ?_]
 ·show aB
 ·let⟨us,e,_⟩:=(R.own p z).2
  rw[s _ _ e]at b;ext b
theorem FJ{us:List V}(R:aY X.K Hi O τ b H)(s:aD H a)(h:dg X.K a p us):dg X.K (aW a O) p us:=(R.ext s).tups.at h
def LZ{m:Bool}{us:List V}(a:aG X.K Hi n c H us)(b:aG X.K Hi m e H d):aG X.K Hi (n&&m) (c++e) H (us++d):=by
 show aG.app (a.low λz=> ?_) (b.low λz=> ?_)
 ·rw[M8]at z;show z.1
 ·rw[M8]at z;show z.2
theorem pX:ag X.K Hi O H a (sc (.int i)) (.int i):=iD λ_=>Rp.int.mpr rfl
theorem GP:ag X.K Hi O H a (sc (.bl i)) (.bl i):=iD λ_=>Rp.bl.mpr rfl
theorem KP:ag X.K Hi O H a (sc (.str i)) (.str i):=iD λ_=>Rp.str.mpr rfl
open J
def xG(h:iQ a n=some r):a.length<=LN/\r=.own a n:=by
 unfold iQ at h
 split at h
 ·rename_i e;ext h;show⟨e,rfl⟩
 ·ext h
def Ek(h:yy a n=some r):a.length<=LN/\r=.frz (.tup a) n:=by
 unfold yy at h
 split at h
 ·rename_i e;ext h;show⟨e,rfl⟩
 ·ext h
theorem binI(n:fH X (binaryOp d) (rI C g))(f:aL X Hi τ a x)(l:aL X Hi τ b y)(e:x.val=.int i)(h:y.val=.int j)(c:C i j)
  (m:∀G,Rp X.K Hi true w G (g i j)):aL X Hi τ (.BinOp a d b pos) (sc w) :=
 nB n f l λO σ H H2 u v Q R s ru rv q=>⟨i,j,ru.int R s e,rv.int R s h,c,q _ _ (aD.refl _) (iD m)⟩
theorem Gj(m:fH X (binaryOp c) (BD g))(e:aL X Hi τ a x)(f:aL X Hi τ b y)(d:x.val=.int i)(h:y.val=.int j)
  (l:∀G,Rp X.K Hi true w G (g i j)):aL X Hi τ (.BinOp a c b pos) (sc w) :=
 nB m e f λO σ H H2 u v Q R s ru rv q=>⟨i,j,ru.int R s d,rv.int R s h,q _ _ (aD.refl _) (iD l)⟩
open H
theorem aG.rep{n:Bool}{a:List PV}{H:Hp}{us:List V}(h:aG X.K Hi n a H us):∀k:Nat,aG X.K Hi n (List.replicate k a).flatten H (List.replicate k us).flatten
 |0=>by simp;show .nil|k+1=>by rw[Ol,PR,Ol,PR];show h.app (aG.rep h k)
open J
def DD(g:aL X Hi τ a x)(f:aL X Hi τ b y)(h:eM w x y=some r):aL X Hi τ (.BinOp a w b pos) r:=by
 cases w with
 |Add =>
  let h:wE x y=some r:=h;unfold wE at h
  split at h
  case h_1 i j e d=>ext h;show Gj eQ g f e d λ_=>Rp.int.mpr rfl
  case h_2 i j e d =>
   split at h
   ·rename_i o
    ext h;show nB vR g f λO σ H H2 u v Q R s ru rv q=>(Y_24 i j (ru.str R s e) (rv.str R s d) (by rwa[eZ]) (q _ _ (aD.refl _) KP))
   ·ext h
  case h_3 e d =>
   split at h
   ·rename_i K n O m J N
    let⟨o,rfl⟩:=xG h;show nB xC g f λO σ H H2 u v Q R s ru rv q=> ?_;let⟨p,us,rfl,A,l⟩:=ru.itsL R s J e;let⟨M,C,rfl,I,E⟩:=rv.itsL R s N d;let D:=l.len;rw[NO]at o;show⟨p,M,us,C,rfl,rfl,A,I,by rwa[eZ,<-D,<-E.len],λp3 hp=>q _ _ (aM hp _) (cC s hp (LZ l E))⟩
   ·ext h
  case h_4=>ext h
 |Sub =>
  let h:wC x y=some r:=h;unfold wC at h
  split at h
  case h_1 i j e d=>ext h;show Gj II g f e d λ_=>Rp.int.mpr rfl
  case h_2=>ext h
 |Mult =>
  let h:qm x y=some r:=h;unfold qm at h
  split at h
  case h_1 i j e d =>
   split at h
   ·rename_i c
    ext h;show binI IK g f e d c λ_=>Rp.int.mpr rfl
   ·split at h
    ·rename_i c
     ext h;show binI Ee g f e d c λ_=>Rp.int.mpr rfl
    ·ext h
  case h_2 k e d =>
   split at h
   ·rename_i K n
    split at h
    ·rename_i c
     ext h;show nB Bc g f λO σ H H2 u v Q R s ru rv q=> ?_;let⟨p,us,rfl,S,A,l⟩:=ru;show⟨p,k,us,rfl,rv.int R s d,A,00,00,by rw[eZ,<-l.len];show c.2.2,λp3 hp=>q _ _ (aM hp _) (cC s hp ((l.mono (aO bZ)).rep _))⟩
    ·ext h
   ·ext h
  case h_3=>ext h
 |FloorDiv =>
  let h:gg x y=some r:=h;unfold gg at h
  split at h
  case h_1 i j e d =>
   split at h
   ·rename_i c
    ext h;show binI tF g f e d ⟨c.1,Ot ((Nat.log2_lt (k:=200) 00).mpr 00) 02⟩ λ_=>Rp.int.mpr rfl
   ·ext h
  case h_2=>ext h
 |Mod =>
  let h:wD x y=some r:=h;unfold wD at h
  split at h
  case h_1 i j e d =>
   split at h
   ·rename_i c
    ext h;show binI fN g f e d c λ_=>Rp.int.mpr rfl
   ·ext h
  case h_2=>ext h
 |_=>show absurd (show none=some r from h) (by intro z;ext z)
mutual
theorem bT{pins:List (Addr×Obj)}{σ:L2.St}{H:Hp}{s:Shared}(I:Inv X pins σ H s):∀{a:PV}{n:Nat}{u:V}{u' :Value},nJ n a=true->Rp X.K Hi false a H u->RelV u u' ->∃as,Reads s.heap u' (uS a) as
 | .non,_,_,_,_,r,e=>by cases Rp.non.mp r;ext e;show⟨_,.none⟩
 | .bl b,_,_,_,_,r,e=>by cases Rp.bl.mp r;ext e;show⟨_,.bool b⟩
 | .int i,_,_,_,_,r,e=>by cases Rp.int.mp r;obtain⟨t,rfl⟩:=e;show⟨_,.int i t⟩
 | .str z,_,_,_,_,r,e=>by cases Rp.str.mp r;obtain⟨t,rfl⟩:=e;show⟨_,.str z t⟩
 | .lst xs,n,_,_,f,r,e=>by
  obtain⟨p,us,rfl,_,l,r⟩:=Rp.lst.mp r;ext e;cases n with
  | zero=>ext f
  | succ n =>
   obtain⟨its,rv,pl,_⟩:=I.list l;obtain⟨as,z⟩:=iW I (xs:=xs) (n:=n) f (r.mono bZ) rv;obtain⟨o,ho,hc,m,hd⟩:=pl.isList;show⟨_,.list ho hc hd (by simpa using z)⟩
 | .tup xs,n,_,_,f,r,e=>by
  obtain⟨p,us,rfl,l,r⟩:=Rp.tup.mp r;ext e;cases n with
  | zero=>ext f
  | succ n =>
   obtain⟨its,rv,pl,_⟩:=I.tuple l;obtain⟨as,z⟩:=iW I (xs:=xs) (n:=n) f r rv;obtain⟨o,ho,hc,m,hd⟩:=pl;show⟨_,.tuple ho hc hd (by simpa using z)⟩
 | .dK _ _,n,_,_,f,_,_=>by ext n<;>ext f
 | .dT _ _,n,_,_,f,_,_=>by ext n<;>ext f
theorem iW{pins:List (Addr×Obj)}{σ:L2.St}{H:Hp}{s:Shared}(I:Inv X pins σ H s):∀{xs:List PV}{n:Nat}{us:List V}{us' :List Value},xs.all (nJ n)=true->aG X.K Hi false xs H us->aQ us us' ->∃as,ReadsAll s.heap us' (fi xs) as
 | [],_,_,_,_,r,e=>by
  obtain rfl:=r;ext e;show⟨_,.nil⟩
 | x::xs,n,_,_,f,r,e=>by
  obtain⟨u,us,rfl,r1,r2⟩:=r;cases e with
  | cons e1 e2 =>
   rw[P9,M8]at f;obtain⟨as,z⟩:=bT I f.1 r1 e1;obtain⟨bs,y⟩:=iW I f.2 r2 e2;show⟨_,.cons z y⟩
end
mutual
theorem fS:∀{a:PV}{n:Nat},nJ n a=true->(uS a).canLay0=true/\(uS a).depth<=n
 | .non,n,_=>⟨rfl,No _⟩
 | .bl _,n,_=>⟨rfl,No _⟩
 | .int _,n,_=>⟨rfl,No _⟩
 | .str z,n,h=>⟨by ext n<;>show h,No _⟩
 | .lst xs,0,h=>by ext h
 | .lst xs,n+1,h=>⟨(eE (xs:=xs) (n:=n) h).1,Nat.succ_le_succ (eE (xs:=xs) (n:=n) h).2⟩
 | .tup xs,0,h=>by ext h
 | .tup xs,n+1,h=>⟨(eE (xs:=xs) (n:=n) h).1,Nat.succ_le_succ (eE (xs:=xs) (n:=n) h).2⟩
 | .dK _ _,n,h=>by ext n<;>ext h
 | .dT _ _,n,h=>by ext n<;>ext h
theorem eE:∀{xs:List PV}{n:Nat},xs.all (nJ n)=true->PyData.canLayAll0 (fi xs)=true/\PyData.depthAll (fi xs)<=n
 | [],n,_=>⟨rfl,No _⟩
 | x::xs,n,h=>by
  rw[P9,M8]at h;obtain⟨a,b⟩:=fS h.1;obtain⟨c,d⟩:=eE h.2;show⟨?_,?_⟩
  ·change((uS x).canLay0&&PyData.canLayAll0 (fi xs))=true
   rw[a,c];rfl
  ·change max (uS x).depth (PyData.depthAll (fi xs))<=n
   lia
end
mutual
theorem lV:∀(a b:PV),PyData.eqv (uS a) (uS b)=o0 a b
 | .lst xs,b=>by
  cases b with
  | lst ys=>change PyData.eqvAll (fi xs) (fi ys)=me xs ys;show md xs ys
  | _=>rfl
 | .tup xs,b=>by
  cases b with
  | tup ys=>change PyData.eqvAll (fi xs) (fi ys)=me xs ys;show md xs ys
  | _=>rfl
 | .non,b=>by ext b<;>rfl
 | .bl x,b=>by ext b<;>first|rfl|show beq_eq_decide _ _|(unfold o0;simp[uS,PyData.eqv,Ci,PN])
 | .int x,b=>by ext b<;>first|rfl|show beq_eq_decide _ _|(unfold o0;simp[uS,PyData.eqv,Ci,PN])
 | .str x,b=>by ext b<;>first|rfl|show beq_eq_decide _ _|(unfold o0;simp[uS,PyData.eqv,Ci,PN])
 | .dK k v,b=>by ext b<;>rfl
 | .dT k v,b=>by ext b<;>rfl
theorem md:∀(xs ys:List PV),PyData.eqvAll (fi xs) (fi ys)=me xs ys
 | [],[]=>rfl
 | [],_::_=>rfl
 | _::_,[]=>rfl
 | x::xs,y::ys=>by
  change(PyData.eqv (uS x) (uS y)&&PyData.eqvAll (fi xs) (fi ys))=(o0 x y&&me xs ys);rw[lV x y,md xs ys]
end
open H
theorem gZ(x:PV):∀a:List PV,((fi a).any λy=>PyData.eqv y (uS x))=a.any λy=>o0 y x
 |[]=>rfl|y::a=>by change(PyData.eqv (uS y) (uS x)||(fi a).any λy=>PyData.eqv y (uS x))=(o0 y x||a.any λy=>o0 y x);rw[lV,gZ x a]
variable(X Hi)in
def LC(g:Bool->Bool):R2:=λx y H Q=>∃a b,nJ 12 a=true/\nJ 12 b=true/\Rp X.K Hi false a H x/\Rp X.K Hi false b H y/\Q (.bl (g (o0 a b))) H
def Bh(C:X.A.units+64<cLine):fH X (compareOp .Eq) (LC X Hi id):=by intro d s p H x y u v Q I j o h;let⟨a,b,c,e,n,g,q⟩:=h;let⟨r,f⟩:=bT I c n j;let⟨w,m⟩:=bT I e g o;let⟨l,z⟩:=fS c;let⟨i,D⟩:=fS e;show SeqAt.compareEq_reads f m l i 00 ?_;rw[lV];exists .bl _,H,I,rfl,q
def IJ(C:X.A.units+64<cLine):fH X (compareOp .NotEq) (LC X Hi not):=by intro d s p H x y u v Q I j o h;let⟨a,b,c,e,n,g,q⟩:=h;let⟨r,f⟩:=bT I c n j;let⟨w,m⟩:=bT I e g o;let⟨l,z⟩:=fS c;let⟨i,D⟩:=fS e;show SeqAt.compareNe_reads f m l i 00 ?_;rw[lV];exists .bl _,H,I,rfl,q
variable(X Hi)in
def K9(g:Bool->Bool):R2:=λx y H Q=>∃a b,nJ 12 a=true/\b.all (nJ 12)=true/\Rp X.K Hi false a H x/\(Rp X.K Hi false (.lst b) H y\/Rp X.K Hi false (.tup b) H y)/\Q (.bl (g (b.any λy=>o0 y a))) H
def Bg(D:X.A.units+64<cLine):fH X (compareOp .In) (K9 X Hi id):=by
 intro g s w H x y u v Q I p m h;let⟨a,i,e,d,r,b,q⟩:=h;let⟨z,f⟩:=bT I e r p;let⟨l,C⟩:=fS e;let⟨j,E⟩:=eE d
 rcases b with b|b
 ·let⟨o,c⟩:=bT I (a:=.lst i) (n:=13) d b m
  show SeqAt.in_list_reads c f j l 00 ?_;rw[gZ];exists .bl _,H,I,rfl,q
 ·let⟨o,c⟩:=bT I (a:=.tup i) (n:=13) d b m
  show SeqAt.in_tuple_reads c f j l 00 ?_;rw[gZ];exists .bl _,H,I,rfl,q
def Ed(D:X.A.units+64<cLine):fH X (compareOp .NotIn) (K9 X Hi not):=by
 intro g s w H x y u v Q I p m h;let⟨a,i,e,d,r,b,q⟩:=h;let⟨z,f⟩:=bT I e r p;let⟨l,C⟩:=fS e;let⟨j,E⟩:=eE d
 rcases b with b|b
 ·let⟨o,c⟩:=bT I (a:=.lst i) (n:=13) d b m
  show SeqAt.notIn_list_reads c f j l 00 ?_;rw[gZ];exists .bl _,H,I,rfl,q
 ·let⟨o,c⟩:=bT I (a:=.tup i) (n:=13) d b m
  show SeqAt.notIn_tuple_reads c f j l 00 ?_;rw[gZ];exists .bl _,H,I,rfl,q
def tX{k:af}{G:Hp}(h:iG y=some k)(r:Rp X.K Hi n y G v):v=kV k:=by
 cases y with
 |int i=>ext h;show Rp.int.mp r|str z=>ext h;show Rp.str.mp r|_=>ext h
def Rp.dK{n:Bool}{a:List af}{b:List PV}{G:Hp}{u:V}(h:Rp X.K Hi n (.dK a b) G u):∃p us,u=.ref p/\G p=some (.dK (a.zip us))/\a.length=us.length/\aG X.K Hi n b (IR.del G p) us:=by let⟨p,us,e,_,c,d,f⟩:=h;exists p,us,e,c,d,f
end
section
variable{X:Cx}{Hi:Hp}{τ:En}
open H
def Ch{t:Bool}(h:eqs a b=some t)(ha:Rp X.K Hi false a H u)(hb:Rp X.K Hi false b H' v):HV u v=true/\decide (u=v)=t:=by
  ext a<;>ext b<;>first
    | show absurd (show none=some t from h) (by intro z;ext z)
    | (let e:=Nf (show some _=some t from h)
       subst e
       first
       | rw[Rp.int.mp ha]|rw[Rp.str.mp ha]|rw[Rp.bl.mp ha]|rw[Rp.non.mp ha]
       first
       | rw[Rp.int.mp hb]|rw[Rp.str.mp hb]|rw[Rp.bl.mp hb]|rw[Rp.non.mp hb]
       show⟨rfl,03⟩)
def lU(c:Rp X.K Hi false a H u)(f:uK a=true):iH u=true:=by
 cases a with
 |non=>rw[Rp.non.mp c];rfl|bl b=>rw[Rp.bl.mp c];rfl|int b=>rw[Rp.int.mp c];rfl|str b=>rw[Rp.str.mp c];rfl|_=>ext f
def JS(c:Rp X.K Hi false a H u)(d:Rp X.K Hi false b f v)(e:uK a=true)(g:uK b=true):AC u v=Ci a b:=by
 ext a<;>(try ext e)<;>ext b<;>(try ext g) <;>
  (first|rw[Rp.int.mp c]|rw[Rp.str.mp c]|rw[Rp.bl.mp c]|rw[Rp.non.mp c]) <;>
  (first|rw[Rp.int.mp d]|rw[Rp.str.mp d]|rw[Rp.bl.mp d]|rw[Rp.non.mp d]) <;>
  first|rfl|show beq_eq_decide _ _|show(beq_eq_decide _ _).symm|(simp[AC,Ci,PN];done)|(unfold AC Ci;simp only[beq_eq_decide])
theorem jz:∀{c:List PV}{H:Hp}{us:List V},aG X.K Hi false c H us->c.all uK=true->us.all iH=true
 |[],_,_,h,_=>by obtain rfl:=h;rfl|x::c,_,_,h,f=>by let⟨u,r,rfl,a,b⟩:=h;rw[P9,M8]at f ⊢;show⟨lU a f.1,jz b f.2⟩
theorem qt{x:PV}{g :Hp}{v:V}(d:Rp X.K Hi false x g v)(e:uK x=true):∀{c:List PV}{H:Hp}{us:List V},aG X.K Hi false c H us->c.all uK=true->inV v us=c.any λy=>Ci y x
 |[],_,_,h,_=>by obtain rfl:=h;rfl|y::c,_,_,h,f=>by let⟨u,r,rfl,a,b⟩:=h;rw[P9,M8]at f;change(AC u v||inV v r)=_;rw[PK,qt d e b f.2,JS a d f.1 e]
def Br(c:Rp X.K Hi false a H u)(h:∀z,a≠z\/z≠PV.non):u≠.non:=by
 intro e;subst e;cases a with
 |non=>rcases h .non with z|z<;>show z rfl
 |bl b=>cases Rp.bl.mp c|int b=>cases Rp.int.mp c|str b=>cases Rp.str.mp c|lst d=>let⟨p,us,z,_⟩:=Rp.lst.mp c;ext z
 |tup d=>let⟨p,us,z,_⟩:=Rp.tup.mp c;ext z
 |dK g f=>let⟨p,us,z,_⟩:=c;ext z
 |dT g f=>let⟨p,us,z,_⟩:=c;ext z
open J in
def gc(g:X.A.units+64<cLine){x y:RV}{t:Bool}(h:bB C x.val y.val=some t):∃I:R2,fH X (compareOp C) I /\ ∀(O:List Addr)(d:L2.St)(H b:Hp)(u v:V)(Q:VK),aY X.K Hi O τ d H->aD H b->ag X.K Hi O H b x u->ag X.K Hi O H b y v->Q (.bl t) b->I u v b Q:=by
 cases C with
 |Lt =>
  let h:Cy x.val y.val=some t:=h;unfold Cy at h
  split at h
  case h_1 i j m a=>ext h;exists _,LP,λO d H b u v Q R s ru rv q=>⟨i,j,ru.int R s m,rv.int R s a,q⟩
  case h_2=>ext h
 |LtE =>
  let h:v4 x.val y.val=some t:=h;unfold v4 at h
  split at h
  case h_1 i j m a=>ext h;exists _,LQ,λO d H b u v Q R s ru rv q=>⟨i,j,ru.int R s m,rv.int R s a,q⟩
  case h_2=>ext h
 |Gt =>
  let h:C3 x.val y.val=some t:=h;unfold C3 at h
  split at h
  case h_1 i j m a=>ext h;exists _,LR,λO d H b u v Q R s ru rv q=>⟨i,j,ru.int R s m,rv.int R s a,q⟩
  case h_2=>ext h
 |GtE =>
  let h:v5 x.val y.val=some t:=h;unfold v5 at h
  split at h
  case h_1 i j m a=>ext h;exists _,LS,λO d H b u v Q R s ru rv q=>⟨i,j,ru.int R s m,rv.int R s a,q⟩
  case h_2=>ext h
 |Eq =>
  let h:Gd x.val y.val=some t:=h;unfold Gd at h
  split at h
  ·rename_i z
   ext h;exists _,tG,λO d H b u v Q R s ru rv q=> ?_;let⟨w,f⟩:=Ch z (ru.val R s) (rv.val R s);show⟨w,by rwa[f]⟩
  ·split at h
   ·rename_i c
    rw[M8]at c;ext h;exists _,Bh g,λO d H b u v Q R s ru rv q=>⟨_,_,c.1,c.2,ru.val R s,rv.val R s,q⟩
   ·ext h
 |NotEq =>
  let h:(Gd x.val y.val).map (!·)=some t:=h;obtain⟨k,e,rfl⟩:∃k,Gd x.val y.val=some k/\t= !k:=by
   cases e:Gd x.val y.val with
   |none=>rw[e]at h;ext h|some k=>rw[e]at h;ext h;exists k,rfl,rfl
  unfold Gd at e
  split at e
  ·rename_i z
   ext e;exists _,LO,λO d H b u v Q R s ru rv q=> ?_;let⟨w,f⟩:=Ch z (ru.val R s) (rv.val R s);show⟨w,by rwa[f]⟩
  ·split at e
   ·rename_i c
    rw[M8]at c;ext e;exists _,IJ g,λO d H b u v Q R s ru rv q=>⟨_,_,c.1,c.2,ru.val R s,rv.val R s,q⟩
   ·ext e
 |Is =>
  let h:Cz x.val y.val=some t:=h;unfold Cz at h
  split at h
  case h_1 m a =>ext h;exists _,Be,λO d H b u v Q R s ru rv q=> ?_;let w:=ru.val R s;let f:=rv.val R s;rw[m]at w;rw[a]at f;show⟨Rp.non.mp f,by rwa[Rp.non.mp w]⟩
  case h_2 a E =>
   ext h;exists _,Be,λO d H b u v Q R s ru rv q=> ?_;let f:=rv.val R s;rw[a]at f;let n:=Br (ru.val R s) λz=>by by_cases c:z=.non;left;intro D;show E (D.trans c);right;show c
   show⟨Rp.non.mp f,by rwa[Nu n]⟩
  case h_3=>ext h
 |IsNot =>
  let h:my x.val y.val=some t:=h;unfold my at h
  split at h
  case h_1 m a =>ext h;exists _,xB,λO d H b u v Q R s ru rv q=> ?_;let w:=ru.val R s;let f:=rv.val R s;rw[m]at w;rw[a]at f;show⟨Rp.non.mp f,by rwa[Rp.non.mp w]⟩
  case h_2 a E =>
   ext h;exists _,xB,λO d H b u v Q R s ru rv q=> ?_;let f:=rv.val R s;rw[a]at f;let n:=Br (ru.val R s) λz=>by by_cases c:z=.non;left;intro D;show E (D.trans c);right;show c
   show⟨Rp.non.mp f,by rwa[Nu n]⟩
  case h_3=>ext h
 |In =>
  let h:C2 x.val y.val=some t:=h;unfold C2 at h
  split at h
  case h_1 o a =>
   let e:=h;unfold xR at e
   split at e
   ·rename_i c
    ext e;exists _,oR,λO d H b u v Q R s ru rv q=> ?_;let⟨p,us,rfl,l,r⟩:=rv.lst R s a;exists p,us,rfl,.inl l,lU (ru.val R s) c.1,jz r c.2,by rwa[qt (ru.val R s) c.1 r c.2]
   ·split at e
    ·rename_i c
     rw[M8]at c;ext e;exists _,Bg g,λO d H b u v Q R s ru rv q=>⟨_,o,c.1,c.2,ru.val R s,.inl (by let z:=rv.val R s;rwa[a]at z),q⟩
    ·ext e
  case h_2 o a =>
   let e:=h;unfold xR at e
   split at e
   ·rename_i c
    ext e;exists _,oR,λO d H b u v Q R s ru rv q=> ?_;let⟨p,us,rfl,l,r⟩:=rv.tup R s a;exists p,us,rfl,.inr l,lU (ru.val R s) c.1,jz r c.2,by rwa[qt (ru.val R s) c.1 r c.2]
   ·split at e
    ·rename_i c
     rw[M8]at c;ext e;exists _,Bg g,λO d H b u v Q R s ru rv q=>⟨_,o,c.1,c.2,ru.val R s,.inr (by let z:=rv.val R s;rwa[a]at z),q⟩
    ·ext e
  case h_3=>ext h
 |NotIn =>
  let h:mr x.val y.val=some t:=h;unfold mr at h
  split at h
  case h_1 o a =>
   obtain⟨k,e,rfl⟩:∃k,xR x.val o=some k/\t= !k:=by
    cases e:xR x.val o with
    |none=>rw[e]at h;ext h|some k=>rw[e]at h;ext h;exists k,rfl,rfl
   unfold xR at e
   split at e
   ·rename_i c
    ext e;exists _,px,λO d H b u v Q R s ru rv q=> ?_;let⟨p,us,rfl,l,r⟩:=rv.lst R s a;exists p,us,rfl,.inl l,lU (ru.val R s) c.1,jz r c.2,by rwa[qt (ru.val R s) c.1 r c.2]
   ·split at e
    ·rename_i c
     rw[M8]at c;ext e;exists _,Ed g,λO d H b u v Q R s ru rv q=>⟨_,o,c.1,c.2,ru.val R s,.inl (by let z:=rv.val R s;rwa[a]at z),q⟩
    ·ext e
  case h_2=>ext h
def Bv(h:cZ b=false):behindInMarks a b=false:=by ext b<;>first|rfl|ext h
def Jf(d:X.A.units+64<cLine){t:Bool}(j:aL X Hi τ a x)(g:aL X Hi τ b y)(f:cZ b=false)(h:bB e x.val y.val=some t):aL X Hi τ (.Compare a [e] [b] pos) (sc (.bl t)):=by obtain⟨l,i,k⟩:=gc d h;intro O c H Q R q;show we (EY i aT aT (Bv f)) ?_;show j O c H _ R λu H1 s1 r1=>g O c H1 _ (R.ext s1) λv H2 s2 r2=> ?_;show k O c H H2 u v Q R (s1.trans s2) (r1.ext s2) (r2.back s1) (q _ _ (s1.trans s2) GP)
def Je(d:X.A.units+64<cLine){t:Bool}(j:aL X Hi τ a x)(g:aL X Hi τ b y)(f:cZ b=false)(h:bB e x.val y.val=some t):fm X Hi τ (.Compare a [e] [b] pos) t:=by obtain⟨l,i,k⟩:=gc d h;intro O c H Q R q;show wt (gq i aT aT (Bv f)) ?_;show j O c H _ R λu H1 s1 r1=>g O c H1 _ (R.ext s1) λv H2 s2 r2=> ?_;show k O c H H2 u v _ R (s1.trans s2) (r1.ext s2) (r2.back s1) (Y_12 t rfl (q _ (s1.trans s2)))
def p7(h:cZ c=false):lastMarks [d,a] [b,c]=false:=by show Bv h
def C4(f:X.A.units+64<cLine){o2:CmpOp}{pos:Pos}{t t2:Bool}(m:aL X Hi τ a x)(j:aL X Hi τ b y)(g:cZ c=false)(h:bB n x.val y.val=some t)
  (i:if t=true then∃z,aL X Hi τ c z/\bB o2 y.val z.val=some t2 else t2=false/\∃w z,bB o2 w z=some false):aL X Hi τ (.Compare a [n,o2] [b,c] pos) (sc (.bl t2))/\fm X Hi τ (.Compare a [n,o2] [b,c] pos) t2:=by
 obtain⟨C,l,k⟩:=gc f h;cases t with
 |true =>
  let⟨z,s,r⟩:=i;obtain⟨p,e,o⟩:=gc f r
  constructor
  ·intro O d H Q R q
   show we (tD l e aT aT aT (p7 g)) ?_;show m O d H _ R λu H1 s1 r1=>j O d H1 _ (R.ext s1) λv H2 s2 r2=> ?_;show k O d H H2 u v _ R (s1.trans s2) (r1.ext s2) (r2.back s1) (Y_12 true rfl ?_);show s O d H2 _ (R.ext (s1.trans s2)) λw H3 s3 r3=> ?_;show o O d H H3 v w Q R (s1.trans (s2.trans s3)) ((r2.back s1).ext s3) (r3.back (s1.trans s2)) (q _ _ (s1.trans (s2.trans s3)) GP)
  ·intro O d H Q R q
   show wt (sY l e aT aT aT (p7 g)) ?_;show m O d H _ R λu H1 s1 r1=>j O d H1 _ (R.ext s1) λv H2 s2 r2=> ?_;show k O d H H2 u v _ R (s1.trans s2) (r1.ext s2) (r2.back s1) (Y_12 true rfl ?_);show s O d H2 _ (R.ext (s1.trans s2)) λw H3 s3 r3=> ?_;show o O d H H3 v w _ R (s1.trans (s2.trans s3)) ((r2.back s1).ext s3) (r3.back (s1.trans s2)) (Y_12 t2 rfl (q _ (s1.trans (s2.trans s3))))
 |false =>
  show X_02 (λR0=>X_21 λw z r=> ?_) i;subst R0;let⟨p,e,o⟩:=gc (Hi:=Hi) (τ:=τ) f (x:=sc w) (y:=sc z) r
  constructor
  ·intro O d H Q R q
   show we (tD l e aT aT aT (p7 g)) ?_;show m O d H _ R λu H1 s1 r1=>j O d H1 _ (R.ext s1) λv H2 s2 r2=> ?_;show k O d H H2 u v _ R (s1.trans s2) (r1.ext s2) (r2.back s1) (Y_12 false rfl (by rw[NJ ND];show q _ _ (s1.trans s2) GP))
  ·intro O d H Q R q
   show wt (sY l e aT aT aT (p7 g)) ?_;show m O d H _ R λu H1 s1 r1=>j O d H1 _ (R.ext s1) λv H2 s2 r2=> ?_;show k O d H H2 u v _ R (s1.trans s2) (r1.ext s2) (r2.back s1) (Y_12 false rfl (by rw[NJ ND];exists false,rfl,q _ (s1.trans s2)))
def vD(o:CmpOp)(h:xA o=true):∃w z:PV,bB o w z=some false:=by
 ext o
 ·exists .int 0,.int 1,rfl
 ·exists .int 0,.int 0,rfl
 ·exists .int 0,.int 0,rfl
 ·exists .int 1,.int 0,rfl
 ·exists .int 0,.int 0,rfl
 ·exists .int 0,.int 1,rfl
 all_goals ext h
def IY(c:aL X Hi τ a x)(e:x.val=.int i):aL X Hi τ (.UnaryOp .USub a pos) (sc (.int (-i))):=by intro O b H Q R q;show we (BU ux aT) ?_;show c O b H _ R λu H1 s1 r1=>⟨i,r1.int R s1 e,q _ _ s1 pX⟩
def IV(d:aL X Hi τ a x)(e:x.val=.bl b):aL X Hi τ (.UnaryOp .Not a pos) (sc (.bl !b)):=by intro O c H Q R q;show we (IA aT) ?_;show d O c H _ R λu H1 s1 r1=>(Y_12 b (r1.bl R s1 e) (q _ _ s1 GP))
def IP(c:aL X Hi τ a x):aL X Hi τ (.BoolOp d [a] pos) x:=by intro O b H Q R q;show we (Hz aT) (c O b H _ R q)
def Md(f:aL X Hi τ a x)(e:x.val=.bl true)(g:aL X Hi τ (.BoolOp .And (b::d) pos) y):aL X Hi τ (.BoolOp .And (a::b::d) pos) y:=by intro O c H Q R q;show we (BX aT aT) ?_;show f O c H _ R λu H1 s1 r1=>(Y_12 true (r1.bl R s1 e) (kY (g O c H1 _ (R.ext s1) λw H2 s2 r2=>q w H2 (s1.trans s2) (r2.back s1))))
def Me(d:aL X Hi τ a x)(e:x.val=.bl false):aL X Hi τ (.BoolOp .And (a::b::f) pos) (sc (.bl false)):=by intro O c H Q R q;show we (BX aT aT) ?_;show d O c H _ R λu H1 s1 r1=>(Y_12 false (r1.bl R s1 e) (lG (q _ _ s1 GP)))
def or_f(f:aL X Hi τ a x)(e:x.val=.bl false)(g:aL X Hi τ (.BoolOp .Or (b::d) pos) y):aL X Hi τ (.BoolOp .Or (a::b::d) pos) y:=by intro O c H Q R q;show we (GU aT aT) ?_;show f O c H _ R λu H1 s1 r1=>(Y_12 false (r1.bl R s1 e) (lG (g O c H1 _ (R.ext s1) λw H2 s2 r2=>q w H2 (s1.trans s2) (r2.back s1))))
def or_t(d:aL X Hi τ a x)(e:x.val=.bl true):aL X Hi τ (.BoolOp .Or (a::b::f) pos) (sc (.bl true)):=by intro O c H Q R q;show we (GU aT aT) ?_;show d O c H _ R λu H1 s1 r1=>(Y_12 true (r1.bl R s1 e) (kY (q _ _ s1 GP)))
def Io{t:Bool}(e:fm X Hi τ c t)(h:aL X Hi τ (if t=true then a else b) r):aL X Hi τ (.IfExp c a b pos) r:=by
 intro O d H Q R q;show we (BV nN aT aT) ?_;show e O d H _ R λH1 s1=> ?_;cases t with
 |true=>show kY ((show aL X Hi τ a r from h) O d H1 _ (R.ext s1) λw H2 s2 r2=>q w H2 (s1.trans s2) (r2.back s1))|false=>show lG ((show aL X Hi τ b r from h) O d H1 _ (R.ext s1) λw H2 s2 r2=>q w H2 (s1.trans s2) (r2.back s1))
open J in
def AV(h:nu v=some b)(r:Rp X.K Hi false v H u):Jx X.K u H b:=by
 cases v with
 |non=>ext h;rw[Rp.non.mp r];rfl|bl c=>ext h;rw[Rp.bl.mp r];rfl|int i=>ext h;rw[Rp.int.mp r];rfl|str z =>
  let h:(if z.length<=LN then some ((z.length:Int) !=0)else none)=some b:=h
  split at h
  ·rename_i c
   ext h;rw[Rp.str.mp r];show⟨by rwa[eZ],rfl⟩
  ·ext h
 |lst a =>ext h;obtain⟨p,us,rfl,_,l,r⟩:=Rp.lst.mp r;have:=r.len;show .inl (Y_12 us l (by ext a<;>ext us<;>simp_all))
 |tup a =>ext h;obtain⟨p,us,rfl,l,r⟩:=Rp.tup.mp r;have:=r.len;show .inr (.inl (Y_12 us l (by ext a<;>ext us<;>simp_all)))
 |dK d e =>ext h;obtain⟨p,us,rfl,_,l,z,r⟩:=r;show .inr (.inr (Y_12 _ l (by ext d<;>ext us<;>simp_all)))
 |dT d e=>ext h
def Gz(d:aL X Hi τ e x)(h:nu x.val=some b)(f:∀a,isTrue e X.env a=(do let v<-a;standAt e.pos;holding [v] (truthy v))):fm X Hi τ e b:=by intro O c H Q R q;show wt (BJ aT f) ?_;show d O c H _ R λu H1 s1 r1=>(Y_12 b (AV h (r1.val R s1)) (q _ s1))
def IU(d:fm X Hi τ a b):fm X Hi τ (.UnaryOp .Not a pos) !b:=by intro O c H Q R q;show wt (vN nN) (d O c H _ R λH1 s1=>q _ s1)
def nh(X:Cx)(h:Hp)(g:En)(e:Expr)(b:Bool):Prop:=∀(O:List Addr)(d:L2.St)(H:Hp)(Q:Bool->Hp->Prop),aY X.K h O g d H->(∀f,aD H f ->Q b f) -> ∀(c:Sem Value)(a:List (Addr×Obj))(s:Shared),Inv X a d H s->wpAny (model X.prog X.w) X.A (isTrue e X.env c) (TP X a d Q) X.xe s
theorem LF:PW X e (λσ H Q=>∀(b:Sem Value)(a:List (Addr×Obj))(s:Shared),Inv X a σ H s->wpAny (model X.prog X.w) X.A (isTrue e X.env b) (TP X a σ Q) X.xe s):=λwh a s σ H Q I h=>h wh a s I
theorem nh.tc(h:nh X Hi τ e b):fm X Hi τ e b:=λO σ H Q R q pins s I=>h O σ H Q R q _ pins s I
def IN(e:fm X Hi τ a b):nh X Hi τ (.BoolOp f [a] pos) b:=by
 intro O d H Q R q g c s I;cases f with
 |And=>show wn nN g c s d H Q I (e O d H Q R q)|Or=>show vL nN g c s d H Q I (e O d H Q R q)
def DM{t:Bool}(g:fm X Hi τ a t)(d:if t=true then nh X Hi τ (.BoolOp .And (b::f) pos) u else u=false):nh X Hi τ (.BoolOp .And (a::b::f) pos) u:=by
 intro O e H Q R q h c s I;show BF nN LF h c s e H Q I ?_;show g O e H _ R λH1 s1=> ?_;cases t with
 |true=>show kY ((show nh X Hi τ _ u from d) O e H1 _ (R.ext s1) λH2 s2=>q _ (s1.trans s2))|false =>subst d;show lG (q _ s1)
def GV{t:Bool}(g:fm X Hi τ a t)(d:if t=true then u=true else nh X Hi τ (.BoolOp .Or (b::f) pos) u):nh X Hi τ (.BoolOp .Or (a::b::f) pos) u:=by
 intro O e H Q R q h c s I;show BE nN LF h c s e H Q I ?_;show g O e H _ R λH1 s1=> ?_;cases t with
 |false=>show lG ((show nh X Hi τ _ u from d) O e H1 _ (R.ext s1) λH2 s2=>q _ (s1.trans s2))|true =>subst d;show kY (q _ s1)
end
end IR
namespace L2
open PySem PySem.Spec PyProof.Rows
section
variable{X:Cx}
inductive Mi(K:W.Frag)(H:Hp):V->Value->Prop where
 | of {x:V} {t:Value} (h:ko K H x t):Mi K H x t
 | lst {a:Addr} {xs:List V} (e:bG K H a xs):Mi K H (.ref a) (.type "list")
 | tup {a:Addr} {xs:List V} (e:dg K H a xs):Mi K H (.ref a) (.type "tuple")
open H
def wA:bQ X (.builtin "isinstance") (λxs H Q=>∃x c t b,xs=[x,.ty c]/\Mi X.K H x t/\W.kitOne X.K t (.type c)=some b/\Q (.bl b) H):=by
 intro pins s σ H xs us Q I r h;show X_41 (λx c t b=>X_04 λR4 ty e q=> ?_) h;subst R4;let⟨u,w',rfl,rx,ry⟩:=vals2 r;ext ry;cases ty with
 |of ty=>show zG I rx ty e λtk=>⟨.bl b,H,I.tok _,rfl,q⟩|lst l =>ext rx;let⟨its,r',pl,hz⟩:=I.list l;let⟨o,n,h1,h2,_⟩:=pl;show PH W.kitx_list I.kIn ⟨o,h1,h2⟩ e (λz=>nomatch z) λtk=>⟨.bl b,H,I.tok _,rfl,q⟩
 |tup l =>ext rx;obtain⟨its,r',⟨o,h1,h2,_⟩,hz⟩:=I.tuple l;show PH W.kitx_tuple I.kIn ⟨o,h1,h2⟩ e (λz=>nomatch z) λtk=>⟨.bl b,H,I.tok _,rfl,q⟩
end
section
variable{K:W.Frag}
open H
def kits:(W.kitOne K (.type "NoneType") (.type "int")=some false/\W.kitOne K (.type "NoneType") (.type "str")=some false/\W.kitOne K (.type "NoneType") (.type "list")=some false/\W.kitOne K (.type "NoneType") (.type "tuple")=some false/\W.kitOne K (.type "NoneType") (.type "bool")=some false) /\ (W.kitOne K (.type "bool") (.type "int")=some true/\W.kitOne K (.type "bool") (.type "str")=some false/\W.kitOne K (.type "bool") (.type "list")=some false/\W.kitOne K (.type "bool") (.type "tuple")=some false) /\ (W.kitOne K (.type "int") (.type "bool")=some false/\W.kitOne K (.type "int") (.type "str")=some false/\W.kitOne K (.type "int") (.type "list")=some false/\W.kitOne K (.type "int") (.type "tuple")=some false) /\ (W.kitOne K (.type "str") (.type "bool")=some false/\W.kitOne K (.type "str") (.type "int")=some false/\W.kitOne K (.type "str") (.type "list")=some false/\W.kitOne K (.type "str") (.type "tuple")=some false) /\ (W.kitOne K (.type "list") (.type "bool")=some false/\W.kitOne K (.type "list") (.type "int")=some false/\W.kitOne K (.type "list") (.type "str")=some false/\W.kitOne K (.type "list") (.type "tuple")=some false) /\ (W.kitOne K (.type "tuple") (.type "bool")=some false/\W.kitOne K (.type "tuple") (.type "int")=some false/\W.kitOne K (.type "tuple") (.type "str")=some false/\W.kitOne K (.type "tuple") (.type "list")=some false) /\ (W.kitOne K (.type "dict") (.type "bool")=some false/\W.kitOne K (.type "dict") (.type "int")=some false/\W.kitOne K (.type "dict") (.type "str")=some false/\W.kitOne K (.type "dict") (.type "list")=some false/\W.kitOne K (.type "dict") (.type "tuple")=some false):=by show⟨⟨?_,?_,?_,?_,?_⟩,⟨?_,?_,?_,?_⟩,⟨?_,?_,?_,?_⟩,⟨?_,?_,?_,?_⟩,⟨?_,?_,?_,?_⟩,⟨?_,?_,?_,?_⟩,⟨?_,?_,?_,?_,?_⟩⟩<;>kernel_rfl
end
end L2
namespace IR
open PySem PySem.Spec PyProof.Rows L2
section
variable{X:Cx}{Hi:Hp}{τ:En}
open H
def aN(h:aV e=false):starEach (e::b) a=(false,eval e a)::starEach b a:=by ext e<;>first|rfl|ext h
theorem lT{a:Env}{pos:Pos}:∀{b:List Expr},(∀e∈b,aV e=false)->(backTo pos (starEach b a)).any (·.1)=false
 |[],_=>rfl|e::b,h=>by rw[aN (h e M7)];change(false||(backTo pos (starEach b a)).any (·.1))=false;rw[lT λx hx=>h x (M4 _ hx)];rfl
def DL:qx X Hi τ [] []:=by intro O a H Q R q;show wa aH (q _ _ (aD.refl _) rfl)
def qp(f:aL X Hi τ e r)(d:aV e=false)(g:qx X Hi τ c b):qx X Hi τ (e::c) (r::b):=by intro O a H Q R q;show wa (aC aT vP (aN d)) ?_;show f O a H _ R λu H1 s1 r1=>g O a H1 _ (R.ext s1) λus H2 s2 r2=> ?_;show q _ _ (s1.trans s2) ⟨u,us,rfl,r1.ext s2,r2.back s1⟩
def IZ(h:qx X Hi τ c b)(f:keeps b=some (a,n))(g:iQ a n=some r):aL X Hi τ (.List c pos) r:=by let⟨i,rfl⟩:=xG g;intro O d H Q R q;show we (eB vP) ?_;show h O d H _ R λus H1 s1 r1=> ?_;let k:=r1.keeps R s1 f;show⟨by rwa[eZ,<-k.len],λp hp=>q _ _ (s1.trans (aM hp _)) (cC s1 hp k)⟩
def AU{m:Nat}(h:qx X Hi τ c b)(f:keeps b=some (a,n))(g:yy a n=some r):aL X Hi τ (.Tuple c m pos) r:=by let⟨i,rfl⟩:=Ek g;intro O d H Q R q;show we (Hw vP) ?_;show h O d H _ R λus H1 s1 r1=> ?_;let k:=r1.keeps R s1 f;show⟨by rwa[eZ,<-k.len],λp hp=>q _ _ (s1.trans (aM hp _)) (Rp.tup.mpr (Y_23 p us rfl (dg.of (xU R s1 hp)) (k.mono (aO (aM hp _)))))⟩
def Fb:aL X Hi τ (.Dict [] [] pos) (.owd (.dK []) [] true):=by intro O b H Q R q;show we ji ?_;intro p a;show q _ _ (aM a _) ⟨p,[],_,rfl,a,aB,⟨rfl,rfl⟩,.nil⟩
open J in
def xi{k:af}{m:Expr}(x:PE X m l)(j:∀d H Q,Q (kV k) H->l d H Q)(h:aL X Hi τ v r)(s:r.keep=some (w,n))(A:imm w=true):aL X Hi τ (.Dict [some m] [v] pos) (.owd (.dK [k]) [w] true):=by
 intro O d H Q R q;show we (wz (si x aT wu) rfl rfl (by intro z;ext z) (by change 1<=15;decide)) ?_;intro p g;let i:=aM g (.dK []);show j d _ _ ?_;show h O d _ _ (R.ext i) λu H2 s2 r2=> ?_;show⟨s2 _ _ aB,[(k,u)],rfl,by change 1<=15;decide,?_⟩;let e:gO [] [(k,u)]=[(k,u)]:=by simp[gO,dm]
 let y:aD H (L2.upd H2 p (.dK [(k,u)])):=λb o z=>by rw[aA (aE z g)];show s2 _ _ (i _ _ z)
 show q _ _ y ⟨p,[u],_,rfl,g,aB,⟨rfl,rfl⟩,.cons (Rp.imm A ⟨λb xs z=> ?_,λb o xs z=> ?_⟩ (r2.keep (R.ext i) s2 s)) .nil⟩
 ·let a:b≠p:=λc=>by
   subst c;have:=ah _ _ z;rw[s2 _ _ aB]at this;ext this
  unfold aW at z ⊢
  split at z;ext z
  ·rename_i f
   rw[NJ f];unfold del;rwa[NJ a,aA a]
 ·let a:b≠p:=λc=>by
   subst c;have:=ah _ _ z;rw[s2 _ _ aB]at this;ext this
  unfold aW at z ⊢
  split at z;ext z
  ·rename_i f
   rw[NJ f];unfold del;rwa[NJ a,aA a]
def kM(O:List Addr)(G:Hp):Prop:=∀l∈O,(∀a,G l≠some (.tup a))/\∀o a,G l≠some (.frz o (.tup a))
def Mo.noTup{o:HO}{G:Hp}(m:Mo o)(e:G l=some o):(∀a,G l≠some (.tup a))/\∀o a,G l≠some (.frz o (.tup a)):=by let⟨b,us,m⟩:=m;show⟨λxs z=> ?_,λo a z=> ?_⟩<;>(rw[e]at z;ext z;ext b<;>first|cases m.1|ext m)
theorem kM.del{G:Hp}(h:kM O G):kM O (IR.del G p):=λl hl=>by
 show⟨λxs e=> ?_,λo xs e=> ?_⟩
 ·unfold IR.del at e
  split at e;ext e;show(h l hl).1 xs e
 ·unfold IR.del at e
  split at e;ext e;show(h l hl).2 o xs e
def kM.tups{G:Hp}(h:kM O G):wG G (aW G O):=by
 show⟨λb xs e=> ?_,λb o xs e=> ?_⟩
 ·unfold aW
  rwa[NJ λz=>(h b z).1 xs e]
 ·unfold aW
  rwa[NJ λz=>(h b z).2 o xs e]
open J
mutual
theorem Rp.avoid{K:W.Frag}{Hj:Hp}{O:List Addr}(hO:∀l∈O,Hj l≠none):∀{v:PV}{G:Hp}{u:V},kM O G->Rp K Hj true v G u->Rp K Hj true v (aW G O) u
 | .non,_,_,_,h=>h
 | .bl _,_,_,_,h=>h
 | .int _,_,_,_,h=>h
 | .str _,_,_,_,h=>h
 | .lst xs,G,_,t,h=>by
  change∃_,_;obtain⟨p,us,e,q,l,r⟩:=h;obtain⟨q1,q2⟩:=q rfl;let q3:aW G O p=some (.lst us):=by
   unfold aW;rw[NJ fun z=>hO p z q1];show q2
  show⟨p,us,e,fun _=>⟨q1,q3⟩,bG.of q3,by rw[<- jw];show aG.avoid hO t.del r⟩
 | .tup xs,_,_,t,h=>by
  change∃_,_;obtain⟨p,us,e,l,r⟩:=h;show⟨p,us,e,t.tups.at l,aG.avoid hO t r⟩
 | .dK ks vs,G,_,t,h=>by
  change∃_,_;obtain⟨p,us,e,q,l,z,r⟩:=h;show⟨p,us,e,q,?_,z,by rw[<- jw];show aG.avoid hO t.del r⟩;unfold aW;rw[NJ fun z=>hO p z (q rfl)];show l
 | .dT ks vs,G,_,t,h=>by
  change∃_,_;obtain⟨p,us,e,q,l,z,r⟩:=h;show⟨p,us,e,q,?_,z,by rw[<- jw];show aG.avoid hO t.del r⟩;unfold aW;rw[NJ fun z=>hO p z (q rfl)];show l
theorem aG.avoid{K:W.Frag}{Hj:Hp}{O:List Addr}(hO:∀l∈O,Hj l≠none):∀{xs:List PV}{G:Hp}{us:List V},kM O G->aG K Hj true xs G us->aG K Hj true xs (aW G O) us
 | [],_,_,_,h=>h
 | x::xs,_,_,t,h=>by
  change∃_,_;obtain⟨u,r,e,a,b⟩:=h;show⟨u,r,e,Rp.avoid hO t a,aG.avoid hO t b⟩
end
open H
def Dn{m:L2.St}(R:aY X.K Hi O τ m H)(c:aD H a)(s:aD a b)(h:Rp X.K a true v b u):ag X.K Hi O H b (told v) u:=by
 let i:∀p,a p=none->Hi p=none:=λp hp=>R.same.free (c.free hp);let f:∀l∈O,a l≠none:=λl hl z=>by let⟨us,e,_⟩:=(R.own l hl).2;rw[c _ _ e]at z;ext z
 let g:kM O b :=λl hl=>by let⟨us,e,n⟩:=(R.own l hl).2;let w :=s _ _ (c _ _ e);show n.noTup w
 cases v with
 |lst x =>let⟨p,us,e,q,l,r⟩:=Rp.lst.mp h;let⟨o,j⟩:=q rfl;exists p,us,e,c.free o,j,(aG.avoid f g.del r).entry λ_=>i
 |_=>show (Rp.avoid f g h).entry λ_=>i
def call_ok{ct:Ct}(C:bj h X ct)(o:xE x=false)(n:ct.S.lookup x=some .globalImplicit)(s:ct.F.lookup x=some f)
  (d:∀a∈e::c,aV a=false) (y:qx X Hi τ (e::c) i) (l:h f (i.map RV.val)=some v):aL X Hi τ (.Call (.Name x p) (e::c) [] pos) (told v):=by
 intro O j H Q R q;show X_41 (λk a E D=>X_05 λF A w r u=> ?_) (C.fns x f s);let g:Gl X x:=by change X.env.scope.names.lookup x=_;rwa[C.S]
 show we (bE F A g w r u .nil cY vP (cQ o).1 (aN (d e M7)) (lT λb hb=>d b (M4 _ hb))) ?_;show y O j H _ R λus H1 s1 r1=> ?_;rw[OK];exists _,v,(r1.vals R s1).entry (λz=>by ext z),l,λu H' s' ru=>q _ _ (s1.trans s') (Dn R s1 s' ru)
def gU{ct:Ct}(C:bj a X ct)(h:own ct x=true):Gl X x/\X.mg x=none:=by
 unfold own at h;rw[M8]at h;show⟨?_,C.bl x h.1⟩;change X.env.scope.names.lookup x=_;rw[C.S]
 simpa using h.2
def kK{o:Nat->List PV->Option PV}{ct:Ct}(C:bj o X ct)(l:bQ X (.builtin i) h)(n:own ct x=true)(m:bootBuiltins x=some (.builtin i))(f:xE x=false)(e:aV a=false)(v:aL X Hi τ a j)
  (k:∀(O:List Addr)(c:L2.St)(H d:Hp)(u:V)(Q:VK),aY X.K Hi O τ c H->aD H d->ag X.K Hi O H d j u->(∀w b,aD d b->ag X.K Hi O H b r w->Q w b)->h [u] d Q):aL X Hi τ (.Call (.Name x p) [a] [] pos) r:=by
 intro O c H Q R q;let⟨g,s⟩:=gU C n;show we (eC l g s m (aC aT aH (aN e)) (cQ f).2.2 (cQ f).1 (aN e) rfl) ?_;show v O c H _ R λu H1 s1 r1=>k O c H H1 u Q R s1 r1 λw b s3 r3=>q w b (s1.trans s3) r3
def lr{o:Nat->List PV->Option PV}{ct:Ct}(C:bj o X ct)(l:bQ X (.type i) h)(n:own ct x=true)(m:bootBuiltins x=some (.type i))(f:xE x=false)(e:aV a=false)(v:aL X Hi τ a j)
  (k:∀(O:List Addr)(c:L2.St)(H d:Hp)(u:V)(Q:VK),aY X.K Hi O τ c H->aD H d->ag X.K Hi O H d j u->(∀w b,aD d b->ag X.K Hi O H b r w->Q w b)->h [u] d Q):aL X Hi τ (.Call (.Name x p) [a] [] pos) r:=by
 intro O c H Q R q;let⟨g,s⟩:=gU C n;show we (bh l g s m (aC aT aH (aN e)) (cQ f).2.2 (cQ f).1 (aN e) rfl) ?_;show v O c H _ R λu H1 s1 r1=>k O c H H1 u Q R s1 r1 λw b s3 r3=>q w b (s1.trans s3) r3
def b2_go{A:Nat->List PV->Option PV}{ct:Ct}(C:bj A X ct){o:String}{s:RV}(h:bQ X (.builtin o) n)(z:own ct x=true)(y:bootBuiltins x=some (.builtin o))(m:xE x=false)(j:aV a=false)(e:aV b=false)(E:aL X Hi τ a s)(i :aL X Hi τ b l)
  (k:∀(O:List Addr)(d:L2.St)(H c:Hp)(u v:V)(Q:VK),aY X.K Hi O τ d H->aD H c->ag X.K Hi O H c s u->ag X.K Hi O H c l v->(∀w f,aD c f->ag X.K Hi O H f r w->Q w f)->n [u,v] c Q):aL X Hi τ (.Call (.Name x p) [a,b] [] pos) r:=by
 intro O d H Q R q;let⟨g,D⟩:=gU C z;show we (eC h g D y (aC aT (aC aT aH (aN e)) (aN j)) (cQ m).2.2 (cQ m).1 (aN j) (lT λc h=>by simp at h;subst h;show e)) ?_;show E O d H _ R λu H1 s1 r1=>i O d H1 _ (R.ext s1) λv c s2 r2=>k O d H c u v Q R (s1.trans s2) (r1.ext s2) (r2.back s1) λw f s3 r3=>q w f (s1.trans (s2.trans s3)) r3
theorem uc:∀{d:List PV}{f:List Bool}{H:Hp}{us:List V},kI d=some f->aG X.K Hi false d H us->us=f.map V.bl
 |[],f,_,_,h,r=>by ext h;show r|x::d,f,_,_,h,r=>by
  let⟨u,g,rfl,a,b⟩:=r;cases x with
  |bl c =>
   let h:(kI d).map (c::·)=some f:=h;cases e:kI d with
   |none=>rw[e]at h;ext h|some i =>rw[e]at h;ext h;rw[Rp.bl.mp a,uc e b];rfl
  |_=>ext h
theorem cR:∀{d:List PV}{f:List Int}{H:Hp}{us:List V},aP d=some f->aG X.K Hi false d H us->us=f.map V.int
 |[],f,_,_,h,r=>by ext h;show r|x::d,f,_,_,h,r=>by
  let⟨u,g,rfl,a,b⟩:=r;cases x with
  |int c =>
   let h:(aP d).map (c::·)=some f:=h;cases e:aP d with
   |none=>rw[e]at h;ext h|some i =>rw[e]at h;ext h;rw[Rp.int.mp a,cR e b];rfl
  |_=>ext h
theorem fz:∀{d:List PV}{f:List Str}{H:Hp}{us:List V},bL d=some f->aG X.K Hi false d H us->us=f.map V.str
 |[],f,_,_,h,r=>by ext h;show r|x::d,f,_,_,h,r=>by
  let⟨u,g,rfl,a,b⟩:=r;cases x with
  |str c =>
   let h:(bL d).map (c::·)=some f:=h;cases e:bL d with
   |none=>rw[e]at h;ext h|some i =>rw[e]at h;ext h;rw[Rp.str.mp a,fz e b];rfl
  |_=>ext h
open J
def Ip{t:String}(h:fJ t v=some b)(r:Rp X.K Hi false v H u):∃c,Mi X.K H u c/\W.kitOne X.K c (.type t)=some b:=by
 obtain⟨⟨q,Q,T,N,s⟩,⟨b1,M,y,i⟩,⟨n,O,D,L⟩,⟨J,A,o,E⟩,⟨z,C,w,j⟩,⟨t1,U,I,R⟩,⟨f,m,e,S,g⟩⟩:= @kits X.K;cases v with
 |non =>
  rw[Rp.non.mp r];exists _,.of .non,?_;simp only[fJ]at h
  split at h
  ·rename_i c
   ext h
   rcases c with rfl|rfl|rfl|rfl|rfl<;>assumption
  ·ext h
 |bl x =>
  rw[Rp.bl.mp r];exists _,.of (.bl x),?_;simp only[fJ]at h
  split at h
  ·rename_i c
   ext h
   rcases c with rfl|rfl
   ·assumption
   ·show gS _
  ·split at h
   ·rename_i c
    ext h
    rcases c with rfl|rfl|rfl<;>assumption
   ·ext h
 |int x =>
  rw[Rp.int.mp r];exists _,.of (.int x),?_;simp only[fJ]at h
  split at h
  ·rename_i c
   ext h;subst c;show gS _
  ·split at h
   ·rename_i c
    ext h
    rcases c with rfl|rfl|rfl|rfl<;>assumption
   ·ext h
 |str x =>
  rw[Rp.str.mp r];exists _,.of (.str x),?_;simp only[fJ]at h
  split at h
  ·rename_i c
   ext h;subst c;show gS _
  ·split at h
   ·rename_i c
    ext h
    rcases c with rfl|rfl|rfl|rfl<;>assumption
   ·ext h
 |lst x =>
  let⟨p,us,rfl,_,l,_⟩:=Rp.lst.mp r;exists _,.lst l,?_;simp only[fJ]at h
  split at h
  ·rename_i c
   ext h;subst c;show gS _
  ·split at h
   ·rename_i c
    ext h
    rcases c with rfl|rfl|rfl|rfl<;>assumption
   ·ext h
 |tup x =>
  let⟨p,us,rfl,l,_⟩:=Rp.tup.mp r;exists _,.tup l,?_;simp only[fJ]at h
  split at h
  ·rename_i c
   ext h;subst c;show gS _
  ·split at h
   ·rename_i c
    ext h
    rcases c with rfl|rfl|rfl|rfl<;>assumption
   ·ext h
 |dK a d =>
  let⟨p,us,rfl,_,l,_⟩:=r;exists _,.of (.dK l),?_;simp only[fJ]at h
  split at h
  ·rename_i c
   ext h
   rcases c with rfl|rfl|rfl|rfl|rfl<;>assumption
  ·ext h
 |dT a d=>ext h
def Fs{t:Str}(h:AS t=some a):bootBuiltins t=some (.type a)/\xE t=false:=by
 unfold AS at h
 split at h
 ·rename_i c;ext h;rw[Nh c];show⟨PL,02⟩
 split at h
 ·rename_i c;ext h;rw[Nh c];show⟨PyProof.Rows.boot_bool,02⟩
 split at h
 ·rename_i c;ext h;rw[Nh c];show⟨PyProof.Rows.boot_str,02⟩
 split at h
 ·rename_i c;ext h;rw[Nh c];show⟨Pu,02⟩
 split at h
 ·rename_i c;ext h;rw[Nh c];show⟨Pq,02⟩
 ext h
open H
def isin_ok{ct:Ct}(C:bj x X ct){t:Str}{o:Pos}{m:RV}(v:own ct ("isinstance":Str)=true)(r:AS t=some f)(i:own ct t=true)(l:aV a=false)(z:aL X Hi τ a m)(h:fJ f m.val=some b) :
  aL X Hi τ (.Call (.Name "isinstance" p) [a,.Name t o] [] pos) (sc (.bl b)):=by
 intro O n H Q R q;let⟨g,y⟩:=gU C v;let⟨w,j⟩:=gU C i;let⟨s,d⟩:=Fs r;show we (eC wA g y boot_isinstance (aC aT (aC (LI w j s (cQ d).2.2 (cQ d).1) aH) (aN l)) 02 02 (aN l) rfl) ?_;show z O n H _ R λu H1 s1 r1=> ?_;let⟨c,e,k⟩:=Ip h (r1.val R s1);show⟨u,f,c,b,rfl,e,k,q _ _ s1 GP⟩
end
end IR
namespace L2
open PySem PySem.Spec PyProof.Rows
open H
def zW:bQ X (.type "str") (λxs H Q=>∃i:Int,xs=[.int i]/\i.natAbs.log2<1920/\Q (.str (Str.ofString (toString i))) H):=by intro pins s σ H xs us Q I r h;let⟨i,rfl,hi,q⟩:=h;show X_12 (λu R1=>X_11 λt R3=> ?_) (vals1 r);subst R1 R3;show SR.Kr hi λu tk=>⟨.str (Str.ofString (toString i)),H,I.kept (λb o e=>e),⟨_,rfl⟩,q⟩
def zV:bQ X (.type "str") (λxs H Q=>∃z:Str,xs=[.str z]/\Q (.str z) H):=by intro pins s σ H xs us Q I r h;let⟨z,rfl,q⟩:=h;show X_12 (λu R1=>X_11 λt R3=> ?_) (vals1 r);subst R1 R3;show SR.HS λu tk=>⟨.str z,H,I.kept (λb o e=>e),⟨_,rfl⟩,q⟩
end L2
namespace IR
open PySem L2
section
variable{X:Cx}{Hi:Hp}{τ:En}
open H
def ES(h:BN x=some q):x=mC q:=by
 cases x with
 |tup xs =>
  let h:((aP xs).bind λns=>match ns with
   |[a,b]=>some (a,b)|_=>none)=some q:=h
  cases e:aP xs with
  |none=>rw[e]at h;ext h|some ns =>
   rw[e]at h
   match ns,h with
   |[a,b],h =>
    ext h;have:xs=[PV.int a,PV.int b]:=by
     let key:∀xs ns,aP xs=some ns->xs=ns.map PV.int:=by
      intro xs
      induction xs with
      |nil=>intro ns z;ext z;rfl|cons y r ih =>
       intro ns z;cases y with
       |int i =>
        let z:(aP r).map (i::·)=some ns:=z;cases e2:aP r with
        |none=>rw[e2]at z;ext z|some m=>rw[e2]at z;ext z;rw[ih m e2];rfl
       |_=>ext z
     show key xs _ e
    subst this;rfl
 |_=>ext h
theorem sh:∀{c:List PV}{a:List (Int×Int)},jf c=some a->c=a.map mC
 |[],_,h=>by ext h;rfl|x::r,a,h=>by
  let h:((BN x).bind λq=>(jf r).map (q::·))=some a:=h;cases e:BN x with
  |none=>rw[e]at h;ext h|some q =>
   rw[e]at h;cases b:jf r with
   |none=>rw[b]at h;ext h|some m =>rw[b]at h;ext h;rw[ES e,sh b];rfl
theorem aG.prs{n:Bool}{H:Hp}:∀{a:List (Int×Int)}{us:List V},aG X.K Hi n (a.map mC) H us->J4 X.K H us a
 |[],us,h=>by
  let h:us=[]:=by show h
  subst h;show .nil
 |q::a,us,h=>by
  let⟨u,r,rfl,c,f⟩:=h;let⟨p,b,rfl,l,d⟩:=Rp.tup.mp c;let e:b=[V.int q.1,V.int q.2]:=by have:=(aG.ints (xs:=[q.1,q.2])).mp d;show this
  subst e;show .cons l (aG.prs f)
theorem aG.pick{n:Bool}{H:Hp}{b:List PV}{us:List V}(r:aG X.K Hi n b H us):∀{a:List Nat},(∀j∈a,j<us.length)->aG X.K Hi n (a.map λi=>b.getD i .non) H (a.map λi=>us.getD i .non)
 |[],_=>.nil|j::a,h=>by let c:=h j M7;let⟨x,e,d⟩:=r.at' (M5 c);show .cons ?_ (aG.pick r λi hi=>h i (M4 _ hi));dsimp only;rwa[M6,e,M6,M5 c]
def ya(a:List (Int×Int)):(eY a).length=a.length:=by unfold eY;rw[M0,(SW.mP a).length_eq,NT]
theorem tz:∀a:List (Int×Int),imms (a.map mC)=true
 |[]=>rfl|q::a=>by change(imm (mC q)&&imms (a.map mC))=true;rw[tz a];rfl
open J
def As{ct:Ct}(C:bj y X ct)(w:own ct ("sorted":Str)=true)(v:aV a=false)(A:aL X Hi τ a n)(e:n.val=.lst g)(h:r9 g=some r) :
  aL X Hi τ (.Call (.Name "sorted" p) [a] [] pos) r:=by
 unfold r9 at h;cases f:jf g with
 |none=>rw[f]at h;ext h|some b =>
  rw[f]at h;let h:(if b.length<64 then some (RV.own ((eY b).map mC) true)else none)=some r:=h
  split at h
  ·rename_i c
   ext h;show kK C kF w PyProof.Rows.boot_sorted 02 v A λO σ H H2 u Q R s r q=> ?_;obtain⟨p,us,rfl,l,r⟩:=r.lst R s e;let x:=sh f;subst x;let o:=r.prs;let E:=o.len;exists p,us,b,rfl,l,o,by omega,λd hd=>q _ _ (aM hd _) (cC s hd ?_);let d:∀j∈SW.AB b,j<us.length:=λj d=>by have:=Nm.mp ((SW.mP b).mem_iff.mp d);lia
   let z:(SW.AB b).map (λi=>(b.map mC).getD i .non)=(eY b).map mC:=by
    unfold eY;rw[NY];show OM λi hi=> ?_;have:=d i hi;let D:i<b.length:=by lia
    simp[D]
   let m:=r.pick d;rw[z]at m;show m.imm (tz _) (R.ext s).tups
  ·ext h
def HR{ct:Ct}(C:bj j X ct)(g:own ct ("str":Str)=true)(d:aV a=false)(f:aL X Hi τ a b)(h:iJ .str [b]=some r) :
  aL X Hi τ (.Call (.Name "str" p) [a] [] pos) r:=by
 let h:Am b.val=some r:=h;cases e:b.val with
 |int i =>
  rw[e]at h;let h:(if i.natAbs.log2<1920 then some (sc (.str (Str.ofString (toString i))))else none)=some r:=h
  split at h
  ·rename_i c
   ext h;show lr C zW g PyProof.Rows.boot_str 02 d f λO σ H H2 u Q R s r q=>(Y_13 i (by rw[r.int R s e]) c (q _ _ (aD.refl _) KP))
  ·ext h
 |str z =>rw[e]at h;ext h;show lr C zV g PyProof.Rows.boot_str 02 d f λO σ H H2 u Q R s r q=>(Y_12 z (by rw[r.str R s e]) (q _ _ (aD.refl _) KP))
 |_=>rw[e]at h;ext h
end
end IR
namespace IR
open PySem PySem.Spec PyProof.Rows L2
section
variable{X:Cx}{Hi:Hp}{τ:En}
def B8{ct:Ct}(C:bj v X ct)(d:own ct ("len":Str)=true)(b:aV a=false)(f:aL X Hi τ a g)(h:df g.val=some n) :
  aL X Hi τ (.Call (.Name "len" p) [a] [] pos) (sc (.int n)):=by
 cases e:g.val with
 |str z =>
  rw[e]at h;let h:(if z.length<=LN then some z.length else none)=some n:=h
  split at h
  ·rename_i c
   ext h;show kK C kH d Pt 02 b f λO σ H H2 u Q R s r q=>(Y_13 z (by rw[r.str R s e]) (by rwa[eZ]) (q _ _ (aD.refl _) pX))
  ·ext h
 |lst o =>rw[e]at h;ext h;show kK C fT d Pt 02 b f λO σ H H2 u Q R s r q=> ?_;obtain⟨p,us,rfl,l,r⟩:=r.lst R s e;exists p,us,rfl,.inl l,by rw[<- r.len];show q _ _ (aD.refl _) pX
 |tup o =>rw[e]at h;ext h;show kK C fT d Pt 02 b f λO σ H H2 u Q R s r q=> ?_;obtain⟨p,us,rfl,l,r⟩:=r.tup R s e;exists p,us,rfl,.inr l,by rw[<- r.len];show q _ _ (aD.refl _) pX
 |dK i w =>
  rw[e]at h;ext h;show kK C v9 d Pt 02 b f λO σ H H2 u Q R s r q=> ?_;let z:=r.val R s;rw[e]at z;let⟨p,us,rfl,_,m,j,_⟩:=z;exists p,_,rfl,.inl m,?_;have:(i.zip us).length=i.length:=by rw[List.length_zip,<-j,Pc]
  rw[this];show q _ _ (aD.refl _) pX
 |_=>rw[e]at h;ext h
open H
def De:∀(a:List af)(us:List V),a.length=us.length->(a.zip us).map (·.2)=us:=by
 intro a
 induction a with
 |nil=>intro us h;cases us with|nil=>rfl|cons _ _=>ext h
 |cons k a b=>intro us h;cases us with|nil=>ext h|cons u us=>simp at h;simp[b us h]
open J in
def lvals_ok{cd:Nat->List PV->Option PV}{ct:Ct}(C:bj cd X ct){o:Expr}(ho:own ct ("list":Str)=true)(hp:plainB o=true)(hl:(ap.endLine==cp.line)=true)(h0:aL X Hi τ o ro)(h:iJ .lvals [ro]=some r) :
  aL X Hi τ (.Call (.Name "list" p) [.Call (.Attribute o "values" ap) [] [] cp] [] pos) r:=by
 let hbase:attributeBase o "values" X.env (eval o X.env)=eval o X.env:=by ext o<;>first|rfl|ext hp
 let h:GX ro.val=some r:=h;cases e:ro.val with
 |dK ks vs =>
  rw[e]at h;let h:(if ks.length<=LN then(aP vs).map (λns=>RV.own (ns.map PV.int) true)else none)=some r:=h
  split at h
  ·rename_i hz
   cases eb:aP vs with
   |none=>rw[eb]at h;ext h|some ns =>rw[eb]at h;ext h;intro O σ H Q R q;let⟨g,hm⟩:=gU C ho;let hs:aV (.Call (.Attribute o "values" ap) [] [] cp)=false:=rfl;show we (bh (m7 C.calm) g hm Pu (aC (pq Pp QV PySem.F.type_dict_values oW aT hbase hl) aH (aN hs)) 02 02 (aN hs) rfl) ?_;show h0 O σ H _ R λu H1 s1 r1=> ?_;let z:=r1.val R s1;rw[e]at z;let⟨a,us,rfl,_,ha,hlen,rr⟩:=z;show⟨.inr (.inr (.inl ⟨rfl,.inl ⟨_,ha⟩⟩)),Y_24 a _ rfl rfl ha (λv hv=> ?_)⟩;let s2:=s1.trans (aM hv (nF v a));exists v,a,_,rfl,aB,by rwa[aA (aE ha hv)],by rw[List.length_zip,<-hlen,Pc,N4];show hz,λb hb=> ?_;rw[De ks us hlen];show q _ _ (s2.trans (aM hb _)) (cC s2 hb (aG.ints.mpr (cR eb rr)))
  ·ext h
 |_=>rw[e]at h;ext h
def sumv_ok{cd:Nat->List PV->Option PV}{ct:Ct}(C:bj cd X ct){o:Expr}(ho:own ct ("sum":Str)=true)(hp:plainB o=true)(hl:(ap.endLine==cp.line)=true)(h0:aL X Hi τ o ro)(h:iJ .sumv [ro]=some r) :
  aL X Hi τ (.Call (.Name "sum" p) [.Call (.Attribute o "values" ap) [] [] cp] [] pos) r:=by
 let hbase:attributeBase o "values" X.env (eval o X.env)=eval o X.env:=by ext o<;>first|rfl|ext hp
 let h:(match ro.val with
   | .dK _ vs=>(aP vs).map λns=>sc (.int ns.sum)|_=>none)=some r:=h
 cases e:ro.val with
 |dK ks vs =>
  simp only[e]at h;cases eb:aP vs with
  |none=>rw[eb]at h;ext h|some ns =>
   rw[eb]at h;ext h;intro O σ H Q R q;let⟨g,hm⟩:=gU C ho;let hs:aV (.Call (.Attribute o "values" ap) [] [] cp)=false:=rfl;show we (eC (nZ C.calm) g hm boot_sum (aC (pq Pp QV PySem.F.type_dict_values oW aT hbase hl) aH (aN hs)) 02 02 (aN hs) rfl) ?_;show h0 O σ H _ R λu H1 s1 r1=> ?_;let z:=r1.val R s1;rw[e]at z;let⟨a,us,rfl,_,ha,hlen,rr⟩:=z;show⟨.inr (.inr (.inl ⟨rfl,.inl ⟨_,ha⟩⟩)),Y_24 a _ rfl rfl ha (λv hv=> ?_)⟩;exists v,a,_,ns,rfl,aB,by rwa[aA (aE ha hv)],?_,q _ _ (s1.trans (aM hv _)) pX;rw[<- (cR eb rr)];let key:∀(ks:List af)(us:List V),ks.length=us.length->(ks.zip us).map (·.2)=us:=by
    intro ks
    induction ks with
    |nil=>intro us h;cases us with|nil=>rfl|cons _ _=>ext h
    |cons k ks ih=>intro us h;cases us with|nil=>ext h|cons u us=>simp at h;simp[ih us h]
   show key ks us hlen
 |_=>simp only[e]at h;ext h
def kW{c d:Type}{o:Option c}{f:c->d}{b:d}(h:o.map f=some b):∃a,o=some a/\f a=b:=by
 cases o with
 |none=>ext h|some a=>ext h;exists a,rfl,rfl
open J
def kl{k:Nat}(h:xz x k=some f):(x="len"/\k=1/\f=.len)\/(x="int"/\k=1/\f=.int)\/(x="list"/\k=1/\f=.list)\/(x="tuple"/\k=1/\f=.tuple)\/(x="all"/\k=1/\f=.all)\/(x="min"/\k=2/\f=.min)\/(x="max"/\k=2/\f=.max)\/(x="abs"/\k=1/\f=.abs)\/(x="any"/\k=1/\f=.any)\/(x="sum"/\k=1/\f=.sum)\/(x="sorted"/\k=1/\f=.sorted):=by
 unfold xz at h
 split at h
 ·rename_i c;rw[M8]at c;ext h;show .inl ⟨Nh c.1,Nh c.2,rfl⟩
 split at h
 ·rename_i c;rw[M8]at c;ext h;show .inr (.inl ⟨Nh c.1,Nh c.2,rfl⟩)
 split at h
 ·rename_i c;rw[M8]at c;ext h;show .inr (.inr (.inl ⟨Nh c.1,Nh c.2,rfl⟩))
 split at h
 ·rename_i c;rw[M8]at c;ext h;show .inr (.inr (.inr (.inl ⟨Nh c.1,Nh c.2,rfl⟩)))
 split at h
 ·rename_i c;rw[M8]at c;ext h;show .inr (.inr (.inr (.inr (.inl ⟨Nh c.1,Nh c.2,rfl⟩))))
 split at h
 ·rename_i c;rw[M8]at c;ext h;show .inr (.inr (.inr (.inr (.inr (.inl ⟨Nh c.1,Nh c.2,rfl⟩)))))
 split at h
 ·rename_i c;rw[M8]at c;ext h;show .inr (.inr (.inr (.inr (.inr (.inr (.inl ⟨Nh c.1,Nh c.2,rfl⟩))))))
 split at h
 ·rename_i c;rw[M8]at c;ext h;show .inr (.inr (.inr (.inr (.inr (.inr (.inr (.inl ⟨Nh c.1,Nh c.2,rfl⟩)))))))
 split at h
 ·rename_i c;rw[M8]at c;ext h;show .inr (.inr (.inr (.inr (.inr (.inr (.inr (.inr (.inl ⟨Nh c.1,Nh c.2,rfl⟩))))))))
 split at h
 ·rename_i c;rw[M8]at c;ext h;show .inr (.inr (.inr (.inr (.inr (.inr (.inr (.inr (.inr (.inl ⟨Nh c.1,Nh c.2,rfl⟩)))))))))
 split at h
 ·rename_i c;rw[M8]at c;ext h;show .inr (.inr (.inr (.inr (.inr (.inr (.inr (.inr (.inr (.inr (⟨Nh c.1,Nh c.2,rfl⟩))))))))))
 ext h
def nC{k:Nat}(h:ik x k=some f):(x="str"/\k=1/\f=.str)\/(x="max"/\k=1/\f=.maxl)\/xz x k=some f:=by
 unfold ik at h
 split at h
 ·rename_i c;rw[M8]at c;ext h;show .inl ⟨Nh c.1,Nh c.2,rfl⟩
 split at h
 ·rename_i c;rw[M8]at c;ext h;show .inr (.inl ⟨Nh c.1,Nh c.2,rfl⟩)
 ·show .inr (.inr h)
def bf1_ok{cd:Nat->List PV->Option PV}{ct:Ct}(C:bj cd X ct)(ho:own ct x=true)(hb:ik x 1=some f)(hs:aV a=false)(ha:aL X Hi τ a ra)(h:iJ f [ra]=some r) :
  aL X Hi τ (.Call (.Name x p) [a] [] pos) r:=by
 rcases nC hb with⟨rfl,_,rfl⟩|⟨rfl,_,rfl⟩|hb
 ·show HR C ho hs ha h
 ·unfold iJ at h
  cases e:ra.val with
  |lst xs =>
   simp only[e]at h;cases eb:aP xs with
   |none=>rw[eb]at h;ext h|some ns =>rw[eb]at h;let⟨m,hm,rfl⟩:=kW h;show kK C (ng C.calm) ho boot_max 02 hs ha λO σ H H2 u Q R s r q=> ?_;obtain⟨p,us,rfl,l,r⟩:=r.lst R s e;have:=cR eb r;subst this;exists p,ns,m,rfl,l,hm,q _ _ (aD.refl _) pX
  |_=>simp only[e]at h;ext h
 rcases kl hb with⟨rfl,_,rfl⟩|⟨rfl,_,rfl⟩|⟨rfl,_,rfl⟩|⟨rfl,_,rfl⟩|⟨rfl,_,rfl⟩|⟨_,z,_⟩|⟨_,z,_⟩|⟨rfl,_,rfl⟩|⟨rfl,_,rfl⟩|⟨rfl,_,rfl⟩|⟨rfl,_,rfl⟩
 ·let h:(df ra.val).map (λn=>sc (.int (n:Nat)))=some r:=h
  cases e:df ra.val with
  |none=>rw[e]at h;ext h|some n =>rw[e]at h;ext h;show B8 C ho hs ha e
 ·unfold iJ at h
  cases e:ra.val with
  |int i =>simp only[e]at h;ext h;show lr C ki ho PL 02 hs ha λO σ H H2 u Q R s r q=>.inl (Y_12 i (by rw[r.int R s e]) (q _ _ (aD.refl _) pX))
  |bl i =>simp only[e]at h;ext h;show lr C ki ho PL 02 hs ha λO σ H H2 u Q R s r q=>.inr (Y_12 i (by rw[r.bl R s e]) (q _ _ (aD.refl _) pX))
  |str z =>
   simp only[e]at h
   split at h
   ·let⟨i,hi,rfl⟩:=kW h
    show lr C zd ho PL 02 hs ha λO σ H H2 u Q R s r q=>(Y_24 z i (by rw[r.str R s e]) hi (by assumption) (q _ _ (aD.refl _) pX))
   ·ext h
  |_=>simp only[e]at h;ext h
 ·let h:(match ra.its with|some (xs,n)=>some (RV.own xs n)|none=>none)=some r:=h
  cases e:ra.its with
  |none=>rw[e]at h;ext h|some w =>obtain⟨xs,n⟩:=w;rw[e]at h;ext h;show lr C kG ho Pu 02 hs ha λO σ H H2 u Q R s r q=> ?_;obtain⟨p,us,rfl,l,r⟩:=r.its R s e;exists p,us,rfl,l.imp (·.1) (·.1),λl2 hl=>q _ _ (aM hl _) (cC s hl r)
 ·let h:(match ra.its with|some (xs,n)=>some (RV.frz (.tup xs) n)|none=>none)=some r:=h
  cases e:ra.its with
  |none=>rw[e]at h;ext h|some w =>
   obtain⟨xs,n⟩:=w;rw[e]at h;ext h;show lr C eS ho Pq 02 hs ha λO σ H H2 u Q R s r q=> ?_;obtain⟨p,us,rfl,l,r⟩:=r.its R s e;exists p,us,rfl,l.imp (λl=>⟨l.1,λl2 hl=> ?_⟩) (λl=>⟨l.1,?_⟩)
   ·show q _ _ (aM hl _) (Rp.tup.mpr (Y_23 l2 us rfl (dg.of (xU R s hl)) (r.mono (aO (aM hl _)))))
   ·show q _ _ (aD.refl _) (Rp.tup.mpr (Y_23 p us rfl (FJ R s l.1) r))
 ·unfold iJ at h
  cases e:ra.val with
  |lst xs =>
   simp only[e]at h;cases eb:kI xs with
   |none=>rw[eb]at h;ext h|some bs =>rw[eb]at h;ext h;show kK C (uZ C.calm) ho boot_all 02 hs ha λO σ H H2 u Q R s r q=> ?_;obtain⟨p,us,rfl,l,r⟩:=r.lst R s e;have:=uc eb r;subst this;exists p,bs,rfl,l,q _ _ (aD.refl _) GP
  |_=>simp only[e]at h;ext h
 ·ext z
 ·ext z
 ·show absurd (show none=some r from h) 03
 ·show absurd (show none=some r from h) 03
 ·let h:(match ra.val with
   | .lst xs=>(aP xs).map λns=>sc (.int ns.sum)|_=>none)=some r:=h
  cases e:ra.val with
  |lst xs =>
   simp only[e]at h;cases eb:aP xs with
   |none=>rw[eb]at h;ext h|some bs =>rw[eb]at h;ext h;show kK C (na C.calm) ho boot_sum 02 hs ha λO σ H H2 u Q R s r q=> ?_;obtain⟨p,us,rfl,l,r⟩:=r.lst R s e;have:=cR eb r;subst this;exists p,bs,rfl,l,q _ _ (aD.refl _) pX
  |_=>simp only[e]at h;ext h
 ·let h:(match ra.val with
   | .lst xs=>fZ xs|_=>none)=some r:=h
  cases e:ra.val with
  |lst xs =>
   simp only[e]at h;unfold fZ at h;cases eb:aP xs with
   |none =>rw[eb]at h;show As C ho hs ha e h
   |some bs =>
    rw[eb]at h;let h:(if bs.length<64 then some (RV.own ((L2.sortI bs).map PV.int) true)else none)=some r:=h
    split at h
    ·rename_i c
     ext h;show kK C kh ho boot_sorted 02 hs ha λO σ H H2 u Q R s r q=> ?_;obtain⟨p,us,rfl,l,r⟩:=r.lst R s e;have:=cR eb r;subst this;exists p,bs,rfl,l,c,λa ha=>q _ _ (aM ha _) (cC s ha (aG.ints.mpr rfl))
    ·ext h
  |_=>simp only[e]at h;ext h
open H
def Jr{A:Nat->List PV->Option PV}{ct:Ct}(C:bj A X ct){m:RV}(w:own ct x=true)(n:ik x 2=some f)(o:aV a=false)(e:aV b=false)(y:aL X Hi τ a m)(g :aL X Hi τ b l)(h:iJ f [m,l]=some r) :
  aL X Hi τ (.Call (.Name x p) [a,b] [] pos) r:=by
 show Oe λno=> ?_
 rcases nC n with⟨_,z,_⟩|⟨_,z,_⟩|n
 ·ext z
 ·ext z
 rcases kl n with⟨_,z,_⟩|⟨_,z,_⟩|⟨_,z,_⟩|⟨_,z,_⟩|⟨_,z,_⟩|⟨rfl,_,rfl⟩|⟨rfl,_,rfl⟩|⟨_,z,_⟩|⟨_,z,_⟩|⟨_,z,_⟩|⟨_,z,_⟩
 ·ext z
 ·ext z
 ·ext z
 ·ext z
 ·ext z
 ·unfold iJ at h
  cases c:m.val with
  |int i =>
   cases d:l.val with
   |int j =>simp only[c,d]at h;ext h;show no<|b2_go C (zY C.calm) w boot_min 02 o e y g λO σ H H2 u v Q R s r r2 q=>(Y_22 i j (by rw[r.int R s c,r2.int R s d]) (q _ _ (aD.refl _) pX))
   |_=>simp only[c,d]at h;ext h
  |_=>simp only[c]at h;ext h
 ·unfold iJ at h
  cases c:m.val with
  |int i =>
   cases d:l.val with
   |int j =>simp only[c,d]at h;ext h;show no<|b2_go C (zZ C.calm) w boot_max 02 o e y g λO σ H H2 u v Q R s r r2 q=>(Y_22 i j (by rw[r.int R s c,r2.int R s d]) (q _ _ (aD.refl _) pX))
   |_=>simp only[c,d]at h;ext h
  |_=>simp only[c]at h;ext h
 ·ext z
 ·ext z
 ·ext z
 ·ext z
def count_ok{o:Expr}(x:plainB o=true)(s:(d.endLine==c.line)=true)(g:aV a=false)(v:aL X Hi τ o n)(u:aL X Hi τ a j)(h:du .count n [j]=some r) :
  aL X Hi τ (.Call (.Attribute o "count" d) [a] [] c) r:=by
 let b:attributeBase o "count" X.env (eval o X.env)=eval o X.env:=by ext o<;>first|rfl|ext x
 unfold du at h;cases f:n.val with
 |str z =>
  cases e:j.val with
  |str y =>simp only[f,e]at h;ext h;intro O i H Q R q;show we (gJ O8 PySem.F.slot_str_count PySem.F.type_str_count Bz aT (aC aT aH (aN g)) b (by rw[aN g];rfl) s (aN g) rfl) ?_;show v O i H _ R λu H1 s1 r1=> ?_;let w:=r1.str R s1 f;subst w;show⟨rfl,u O i H1 _ (R.ext s1) λv H2 s2 r2=> ?_⟩;let m:=(r2.back s1).str R (s1.trans s2) e;subst m;exists z,y,rfl,rfl,q _ _ (s1.trans s2) pX
  |_=>simp only[f,e]at h;ext h
 |lst D =>
  cases e:j.val with
  |str y =>simp only[f,e]at h;let⟨C,A,rfl⟩:=kW h;intro O i H Q R q;show we (gJ OQ PySem.F.slot_list_count PySem.F.type_list_count y8 aT (aC aT aH (aN g)) b (by rw[aN g];rfl) s (aN g) rfl) ?_;show v O i H _ R λu H1 s1 r1=> ?_;let⟨p,us,rfl,l,r⟩:=r1.lst R s1 f;have:=fz A r;subst this;show⟨.inl ⟨rfl,_,l⟩,u O i H1 _ (R.ext s1) λv H2 s2 r2=> ?_⟩;let m:=(r2.back s1).str R (s1.trans s2) e;subst m;exists p,y,C,rfl,rfl,s2.seq l,q _ _ (s1.trans s2) pX
  |_=>simp only[f,e]at h;ext h
 |_=>simp only[f]at h;ext h
theorem hU(a:Str):∀b:List Str,Str.join a b=bP a b
 |[]=>rfl|[x]=>rfl|x::y::r=>by change x++a++Str.join a (y::r)=_;rw[hU a (y::r)];rfl
open J in
def join_ok{o:Expr}{A:RV}(M:plainB o=true)(J:(g.endLine==f.line)=true)(D:aV a=false)(T:aL X Hi τ o A)(S:aL X Hi τ a C)(h:du .join A [C]=some r) :
  aL X Hi τ (.Call (.Attribute o "join" g) [a] [] f) r:=by
 let w:attributeBase o "join" X.env (eval o X.env)=eval o X.env:=by ext o<;>first|rfl|ext M
 let y:∀b d (j:A.val=.str b),(∀O n H i u,aY X.K Hi O τ n H->aD H i->ag X.K Hi O H i C u->∃p,u=.ref p/\(bG X.K i p (d.map V.str)\/dg X.K i p (d.map V.str))) -> (d.map (·.length)).sum+d.length*b.length<=LN->aL X Hi τ (.Call (.Attribute o "join" g) [a] [] f) (sc (.str (bP b d))):=by intro b d j E N O n H Q R q;show we (gJ O8 PySem.F.slot_str_join PySem.F.type_str_join xH aT (aC aT aH (aN D)) w (by rw[aN D];rfl) J (aN D) rfl) ?_;show T O n H _ R λu H1 s1 r1=> ?_;let m:=r1.str R s1 j;subst m;show⟨rfl,S O n H1 _ (R.ext s1) λv i s2 r2=> ?_⟩;let⟨p,rfl,L⟩:=E O n H i v R (s1.trans s2) (r2.back s1);exists b,p,d,rfl,rfl,L,N,?_;let e:Txt.join b d=bP b d:=(PySem.StrLaws.glued_eq_join _ _).trans (hU b d);rw[e];show q _ _ (s1.trans s2) KP
 unfold du at h;cases m:A.val with
 |str b =>
  cases z:C.val with
  |lst I =>
   simp only[m,z]at h;cases x:bL I with
   |none=>rw[x]at h;ext h|some d =>
    rw[x]at h;let h:(if(d.map (·.length)).sum+d.length*b.length<=LN then some (sc (.str (bP b d)))else none)=some r:=h
    split at h
    ·rename_i c
     ext h;show y b d m (λO n H i u R s r=> ?_) c;obtain⟨p,us,rfl,l,r⟩:=r.lst R s z;have:=fz x r;subst this;exists p,rfl,.inl l
    ·ext h
  |tup I =>
   simp only[m,z]at h;cases x:bL I with
   |none=>rw[x]at h;ext h|some d =>
    rw[x]at h;let h:(if(d.map (·.length)).sum+d.length*b.length<=LN then some (sc (.str (bP b d)))else none)=some r:=h
    split at h
    ·rename_i c
     ext h;show y b d m (λO n H i u R s r=> ?_) c;obtain⟨p,us,rfl,l,r⟩:=r.tup R s z;have:=fz x r;subst this;exists p,rfl,.inr l
    ·ext h
  |_=>simp only[m,z]at h;ext h
 |_=>simp only[m]at h;ext h
def noSl(h:fQ b=false):KB b:=by intro o i;ext b<;>first|rfl|ext h
def EU(h:fQ b=false):x5 b:=by intro o i;ext b<;>first|rfl|ext h
def nD{us:List V}{k:Int}(r:aG X.K Hi n a H us)(h:cH a k=some e):∃u,cH us k=some u/\Rp X.K Hi n e H u:=by
 unfold cH at h ⊢;rw[<- r.len];cases c:qz a.length k with
 |none=>rw[c]at h;ext h|some j =>rw[c]at h;show r.at h
open J in
def CS(Y:X.A.units+64<cLine)(N:fQ i=false)(T:aL X Hi τ a x)(S:aL X Hi τ i y)(h:index x y=some r):aL X Hi τ (.Subscript a i pos) r:=by
 let C:∀{M:R2}(U:Mr X M),(∀O f H d u v Q,aY X.K Hi O τ f H->aD H d->ag X.K Hi O H d x u->ag X.K Hi O H d y v->(∀w,ag X.K Hi O H d r w->Q w d)->M u v d Q)->aL X Hi τ (.Subscript a i pos) r:=by intro M U k O f H Q R q;show we (jh U aT aT (EU N)) ?_;show T O f H _ R λu H1 s1 r1=>S O f H1 _ (R.ext s1) λv d s2 r2=> ?_;show k O f H d u v Q R (s1.trans s2) (r1.ext s2) (r2.back s1) λw r3=>q w d (s1.trans s2) r3
 unfold index at h
 split at h
 case h_1 j n k o =>
  cases c:cH j k with
  |none=>rw[c]at h;ext h|some e =>rw[c]at h;ext h;show C dw λO f H d u v Q R s r1 r2 q=> ?_;obtain⟨p,us,rfl,_,l,r⟩:=Rp.lst.mp (show Rp X.K Hi n (.lst j) (aW d O) u from r1);let⟨w,m,b⟩:=nD r c;exists p,us,k,w,rfl,r2.int R s o,(ah).seq l,m,q w (b.mono bZ).up
 case h_2 j n k o =>
  cases c:cH j k with
  |none=>rw[c]at h;ext h|some e =>rw[c]at h;ext h;show C CN λO f H d u v Q R s r1 r2 q=> ?_;let⟨p,us,rfl,l,r⟩:=Rp.tup.mp (show Rp X.K Hi n (.tup j) (aW d O) u from r1);let⟨w,m,b⟩:=nD r c;exists p,us,k,w,rfl,r2.int R s o,(ah).tup l,m,q w b.up
 case h_3 j n k o =>
  cases c:cH j k with
  |none=>rw[c]at h;ext h|some e =>rw[c]at h;ext h;show C dw λO f H d u v Q R s r1 r2 q=> ?_;let⟨p,us,rfl,h0,J,r⟩:=r1;let⟨w,m,b⟩:=nD r c;exists p,us,k,w,rfl,r2.int R s o,bG.of J,m,q w (b.mono (aO bZ)).up
 case h_4 j k o =>
  cases c:cH j k with
  |none=>rw[c]at h;ext h|some e =>
   rw[c]at h;ext h;show C dw λO f H d u v Q R s r1 r2 q=> ?_;obtain⟨p,us,rfl,_,l,r⟩:=Rp.lst.mp (show Rp X.K Hi false (.lst j) d u from r1);let⟨w,m,b⟩:=nD r c;exists p,us,k,w,rfl,r2.int R s o,l,m,q w ?_;unfold jq
   split
   ·rename_i E
    show Rp.imm E (R.ext s).tups (b.mono bZ)
   ·show b.mono bZ
 case h_5 j k o =>
  cases c:cH j k with
  |none=>rw[c]at h;ext h|some e =>
   rw[c]at h;ext h;show C CN λO f H d u v Q R s r1 r2 q=> ?_;let⟨p,us,rfl,l,r⟩:=Rp.tup.mp (show Rp X.K Hi false (.tup j) d u from r1);let⟨w,m,b⟩:=nD r c;exists p,us,k,w,rfl,r2.int R s o,l,m,q w ?_;unfold jq
   split
   ·rename_i E
    show Rp.imm E (R.ext s).tups b
   ·show b
 case h_6 z n k o =>
  split at h
  ·rename_i W
   cases c:cH z.cps.toList k with
   |none=>rw[c]at h;ext h|some e =>rw[c]at h;ext h;show C vg λO f H d u v Q R s r1 r2 q=>⟨z,k,e,r1.str R s rfl,r2.int R s o,by rwa[eZ],c,q _ KP⟩
  ·ext h
 case h_7 D I n =>
  cases L:iG y.val with
  |none=>rw[L]at h;ext h|some k =>
   rw[L]at h;let h:(lE D I k).map (λe=>RV.frz e (n||imm e))=some r:=h;cases c:lE D I k with
   |none=>rw[c]at h;ext h|some e =>
    rw[c]at h;ext h;intro O f H Q R q;show we (lQ 00 aT aT (noSl N)) ?_;show T O f H _ R λu H1 s1 r1=>S O f H1 _ (R.ext s1) λv d s2 r2=> ?_;let⟨p,us,rfl,J,h2,Z⟩:=Rp.dK (show Rp X.K Hi n (.dK D I) (aW d O) u from r1.ext s2);let⟨w,m,b⟩:=(wQ Z h2).2 e c;rw[tX L ((r2.back s1).val R (s1.trans s2))];let g:fV d p (kV k) (some w):=by rw[<- m];show .k (ah p _ J)
    exists p,w,rfl,g,q w d (s1.trans s2) (b.mono bZ).up
 case h_8=>ext h
variable(X Hi τ)in
def zu(e:Option Expr)(o:Option Int):Prop:=match e,o with
 |none,none=>True|some e,some i=>∃r,aL X Hi τ e r/\r.val=.int i|_,_=>False
def Aw{lo:Option Expr}(hr:SlR X rr)(ha:aL X Hi τ a x)(hl:zu X Hi τ lo l)(hh:zu X Hi τ hi h)
  (k:∀(O:List Addr)(σ:L2.St)(H H2:Hp)(u:V)(Q:VK),aY X.K Hi O τ σ H->aD H H2->ag X.K Hi O H H2 x u->(∀w H3,aD H2 H3->ag X.K Hi O H H3 r w->Q w H3)->rr u l h H2 Q):aL X Hi τ (.Subscript a (.Slice lo hi none p2) pos) r:=by
 let part:∀{e:Option Expr}{o:Option Int},zu X Hi τ e o->∃t,PO X e t/\∀O σ H Q,aY X.K Hi O τ σ H->(∀H',aD H H' ->Q o H')->t σ H Q:=by
  intro e o he;cases e with
  |none =>
   cases o with
   |none=>exists _,ww,λO σ H Q R q=>q H (aD.refl _)|some i=>ext he
  |some e =>
   cases o with
   |none=>ext he|some i =>let⟨r,h1,h2⟩:=he;exists _,wv aT,λO σ H Q R q=>h1 O σ H _ R λu H1 s1 r1=>(Y_12 i (r1.int R s1 h2) (q _ s1))
 let⟨tl,pl,ql⟩:=part hl;let⟨th,ph,qh⟩:=part hh;intro O σ H Q R q;show we (sw hr aT pl ph) ?_;show ha O σ H _ R λu H1 s1 r1=>ql O σ H1 _ (R.ext s1) λH2 s2=>qh O σ H2 _ (R.ext (s1.trans s2)) λH3 s3=> ?_;show k O σ H H3 u Q R (s1.trans (s2.trans s3)) (r1.ext (s2.trans s3)) λw H4 s4 r4=>q w H4 (s1.trans (s2.trans (s3.trans s4))) r4
def aG.cut{us:List V}(r:aG X.K Hi n a H us)(c b:Option Int):aG X.K Hi n (IR.cut a c b) H (qf us c b):=by unfold IR.cut qf;rw[<- r.len];show(r.drop _).take _
def Av{o:Pos}(v:aL X Hi τ a x)(f:zu X Hi τ c l)(g:zu X Hi τ d h)(e:slice x l h=some r):aL X Hi τ (.Subscript a (.Slice c d none o) pos) r:=by
 unfold slice at e
 split at e
 case h_1 i =>
  cases b:x.its with
  |none=>rw[b]at e;ext e|some w =>obtain⟨y,n⟩:=w;rw[b]at e;ext e;show Aw wc v f g λO σ H H2 u Q R s r1 q=> ?_;let⟨p,us,rfl,j,m⟩:=r1.itsL R s b i;exists p,us,rfl,j,λp3 hp=>q _ _ (aM hp _) (cC s hp (m.up.cut _ _))
 case h_2=>ext e
open J in
def ED{m o:Pos}(D:aL X Hi τ a x)(e:yk x=some r):aL X Hi τ (.Subscript a (.Slice none none (some (.UnaryOp .USub (.Constant (.int 1) i m) o)) l) pos) r:=by
 let j:∀{g:V->Hp->VK->Prop}(v:RvR X g),(∀O b H c u Q,aY X.K Hi O τ b H->aD H c->ag X.K Hi O H c x u->(∀w d,aD c d->ag X.K Hi O H d r w->Q w d)->g u c Q) -> aL X Hi τ (.Subscript a (.Slice none none (some (.UnaryOp .USub (.Constant (.int 1) i m) o)) l) pos) r:=by intro g v k O b H Q R q;show we (Hy v aT (BU ux aa)) ?_;show D O b H _ R λu H1 s1 r1=>⟨1,rfl,rfl,k O b H H1 u Q R s1 r1 λw d s3 r3=>q w d (s1.trans s3) r3⟩
 unfold yk at e
 split at e
 case h_1 z f =>
  split at e
  ·rename_i A
   ext e;show j HZ λO b H c u Q R s r1 q=>⟨z,r1.str R s f,by rwa[eZ],q _ _ (aD.refl _) KP⟩
  ·ext e
 case h_2 f =>
  cases h:x.its with
  |none=>rw[h]at e;ext e|some w =>obtain⟨E,n⟩:=w;rw[h]at e;ext e;show j D9 λO b H c u Q R s r1 q=> ?_;let⟨p,us,rfl,y,C⟩:=r1.itsL R s h f;exists p,us,rfl,y,λp3 hp=>q _ _ (aM hp _) (cC s hp C.rev)
 case h_3=>ext e
end
end IR
namespace IR
open PySem L2
section
variable{X:Cx}{Hi:Hp}{τ:En}
def yc(h:kR v=some ns):∃xs,v=.lst xs/\aP xs=some ns/\∀n∈ns,0<=n/\n<8:=by
 cases v with
 |lst xs =>
  let h:((aP xs).bind λns=>if ns.all (λn=>decide (0<=n)&&decide (n<8))=true then some ns else none)=some ns:=h;cases e:aP xs with
  |none=>rw[e]at h;ext h|some ms =>
   rw[e]at h;let h:(if ms.all (λn=>decide (0<=n)&&decide (n<8))=true then some ms else none)=some ns:=h
   split at h
   ·rename_i c
    ext h;exists xs,rfl,e,λn hn=>by simpa using NV.mp c n hn
   ·ext h
 |_=>ext h
def nst_ok{cd:Nat->List PV->Option PV}{ct:Ct}(C:bj cd X ct)(ho:own ct x=true)(ho2:own ct y=true)(hf:xF x y=some f)(hs:aV a=false)(ha:aL X Hi τ a ra)(h:iJ f [ra]=some r) :
  aL X Hi τ (.Call (.Name x p) [.Call (.Name y p2) [a] [] pos2] [] pos) r:=by
 unfold xF at hf
 split at hf
 ·rename_i c
  rw[M8]at c;let hx:=Nh c.1;let hy:=Nh c.2;subst hx hy;ext hf;let⟨ns,hn,rfl⟩:=kW h;let⟨xs,e,eb,h8⟩:=yc hn;intro O σ H Q R q;let⟨g,hm⟩:=gU C ho;let⟨g2,hm2⟩:=gU C ho2;show we (eC (kf C.calm) g hm PyProof.Rows.boot_sorted (aC (bh (zX C.calm) g2 hm2 PyProof.Rows.boot_set (aC aT aH (aN hs)) 02 02 (aN hs) rfl) aH) 02 02 rfl rfl) ?_;show ha O σ H _ R λu H1 s1 r1=> ?_;let⟨l,us,rfl,hl,rr⟩:=r1.lst R s1 e;let eu:=cR eb rr;subst eu;exists l,ns,rfl,hl,h8,λb hb=>⟨b,maskOf ns,rfl,Em h8,aB,λd hd=> ?_⟩;let s2:=s1.trans (aM hb (.ext (SQ.SX X.w b (maskOf ns))));show q _ _ (s2.trans (aM hd _)) (cC s2 hd (aG.ints.mpr ?_));unfold ff;rw[NY];rfl
 ·ext hf
def LB:V->List V->Hp->VK->Prop:=λx vs H Q=>∃z y j,x=.str z/\vs=[.str y]/\Lg z y=some j/\Q (.int (j:Nat)) H
open H
def y7:GB X "str.index" LB:=by intro a s f H x i v us Q I c d h;let⟨z,y,j,rfl,rfl,b,q⟩:=h;let⟨t,rfl⟩:=c;show X_12 (λu R1=>X_11 λg R3=> ?_) (vals1 d);subst R1 R3;let⟨r,e⟩:=List.head?_eq_some_iff.mp b;show SC.index e ⟨.int j,H,I.tok _,⟨_,rfl⟩,q⟩
def indexT_ok(K:X.A.units+64<cLine){o:Expr}{m:RV}(E:plainB o=true)(w:(d.endLine==c.line)=true)(g:aV a=false)(C:aL X Hi τ o v)(x:aL X Hi τ a m)(h:du .index v [m]=some r) :
  aL X Hi τ (.Call (.Attribute o "index" d) [a] [] c) r:=by
 let b:attributeBase o "index" X.env (eval o X.env)=eval o X.env:=by ext o<;>first|rfl|ext E
 unfold du at h;cases f:v.val with
 |str z =>
  cases e:m.val with
  |str y =>simp only[f,e]at h;let⟨j,s,rfl⟩:=kW h;intro O i H Q R q;show we (gJ O8 PySem.F.slot_str_index PySem.F.type_str_index y7 aT (aC aT aH (aN g)) b (by rw[aN g];rfl) w (aN g) rfl) ?_;show C O i H _ R λu H1 s1 r1=> ?_;let D:=r1.str R s1 f;subst D;show⟨rfl,x O i H1 _ (R.ext s1) λv H2 s2 r2=> ?_⟩;let u:=(r2.back s1).str R (s1.trans s2) e;subst u;exists z,y,j,rfl,rfl,s,q _ _ (s1.trans s2) pX
  |_=>simp only[f,e]at h;ext h
 |lst J =>
  cases e:m.val with
  |str y =>
   simp only[f,e]at h;cases n:bL J with
   |none=>rw[n]at h;ext h|some I =>
   rw[n]at h;let⟨j,s,rfl⟩:=kW h;intro O i H Q R q;show we (gJ OQ PySem.F.slot_list_index PySem.F.type_list_index y4 aT (aC aT aH (aN g)) b (by rw[aN g];rfl) w (aN g) rfl) ?_;show C O i H _ R λu H1 s1 r1=> ?_;let⟨p,us,rfl,l,r⟩:=r1.lst R s1 f;have:=fz n r;subst this;show⟨.inl ⟨rfl,_,l⟩,x O i H1 _ (R.ext s1) λv H2 s2 r2=> ?_⟩;let u:=(r2.back s1).str R (s1.trans s2) e;subst u;exists p,y,I,j,rfl,rfl,s2.seq l,s,q _ _ (s1.trans s2) pX
  |_=>simp only[f,e]at h;ext h
 |_=>simp only[f]at h;ext h
theorem aG.strs2{K:W.Frag}{n:Bool}{H:Hp}:∀{a:List Str},aG K Hi n (a.map PV.str) H (a.map V.str)
 |[]=>.nil|x::a=>.cons (Rp.str.mpr rfl) aG.strs2
open J in
def split_ok{o:Expr}(u:plainB o=true)(p:(d.endLine==b.line)=true)(g:aV a=false)(x:aL X Hi τ o j)(v:aL X Hi τ a l)(h:du .split j [l]=some r) :
  aL X Hi τ (.Call (.Attribute o "split" d) [a] [] b) r:=by
 let e:attributeBase o "split" X.env (eval o X.env)=eval o X.env:=by ext o<;>first|rfl|ext u
 unfold du at h;cases f:j.val with
 |str z =>
  cases i:l.val with
  |str y =>
   simp only[f,i]at h
   split at h
   ·rename_i c
    ext h;intro O m H Q R q;show we (gJ O8 PySem.F.slot_str_split PySem.F.type_str_split Bx aT (aC aT aH (aN g)) e (by rw[aN g];rfl) p (aN g) rfl) ?_;show x O m H _ R λu H1 s1 r1=> ?_;let s:=r1.str R s1 f;subst s;show⟨rfl,v O m H1 _ (R.ext s1) λv H2 s2 r2=> ?_⟩;let w:=(r2.back s1).str R (s1.trans s2) i;subst w;let n:=s1.trans s2;exists z,y,rfl,rfl,c.1,by rw[N4];lia,λp hn=>q _ _ (n.trans (aM hn _)) (cC n hn aG.strs2)
   ·ext h
  |_=>simp only[f,i]at h;ext h
 |_=>simp only[f]at h;ext h
end
end IR
namespace IR
open PySem PySem.Spec PyProof.Rows L2
section
variable{X:Cx}{Hi:Hp}{τ:En}
def WI(X:Cx)(d a:Expr)(c:L2.St)(H:Hp)(R:It->Hp->Prop):Prop:=∃b,PI X d a b/\b c H R
theorem Hu:PI X b a (λσ H R=>WI X b a σ H R):=λpins s σ H R I ⟨wi,h,q⟩=>h pins s σ H R I q
def wH(O:List Addr)(H:Hp):Prop:=∀l∈O,∃o,H l=some o/\Mo o
theorem aY.lsts{K:W.Frag}(R:aY K Hi O τ a H):wH O H:=λl hl=>(R.own l hl).2
def Gk(B:Hp)(H:Hp)(O:List Addr):Prop:=wH O H/\aD B (aW H O)
def OkB(B:Hp)(H:Hp)(O:List Addr):Prop:=wH O H/\aD B H
open H
def wH.tups(h:wH O H):wG H (aW H O):=by show kM.tups λl hl=> ?_;let⟨us,e,a⟩:=h l hl;show a.noTup e
variable(X Hi)in
structure lC(J:It)(Ok:Hp->List Addr->Prop)(xs:List PV)(n:Bool):Prop where
 go:∀(H:Hp)(O:List Addr)(i:Nat),Ok H O->i<xs.length->J.go i H
 stop:∀(H:Hp)(O:List Addr),Ok H O->J.stop xs.length H
 yld:∀(H:Hp)(O:List Addr)(i:Nat)(u:V)(H' :Hp),Ok H O->i<xs.length->J.yld i H u H' ->aD H H' /\∃x,xs[i]? =some x/\Rp X.K Hi n x (aW H' O) u
variable(X Hi τ)in
def qv(f a:Expr)(e:List PV)(n b:Bool):Prop:=∀(O:List Addr)(d:L2.St)(H:Hp)(R:It->Hp->Prop),aY X.K Hi O τ d H -> (∀J c,aD H c->lC X Hi J (if b=true then OkB c else Gk (aW c O)) e n->R J c)->WI X f a d H R
theorem Ge{B:Hp}{p:Addr}{us:List V}{a:List PV}{n:Bool}(l:bG X.K B p us)(r:aG X.K Hi n a B us):lC X Hi (KJ X.K p) (Gk B) a n where
 go:=λH O i ok hi=>⟨us,us[i]'(by rwa[<- r.len]),(ok.2.trans ah).seq l,03⟩
 stop:=λH O ok=>⟨us,(ok.2.trans ah).seq l,by rw[r.len];show NB _⟩
 yld:=λH O i u H' ok hi y=>by let⟨e,y⟩:=y;subst e;let⟨x,b,c⟩:=r.at' (y us ((ok.2.trans ah).seq l));show⟨aD.refl _,Y_12 x b (c.mono ok.2)⟩
theorem Ln{B:Hp}{p:Addr}{us:List V}{a:List PV}{n:Bool}(l:dg X.K B p us)(r:aG X.K Hi n a B us):lC X Hi (KI X.K p) (Gk B) a n where
 go:=λH O i ok hi=>⟨us,us[i]'(by rwa[<- r.len]),(ok.2.trans ah).tup l,03⟩
 stop:=λH O ok=>⟨us,(ok.2.trans ah).tup l,by rw[r.len];show NB _⟩
 yld:=λH O i u H' ok hi y=>by let⟨e,y⟩:=y;subst e;let⟨x,b,c⟩:=r.at' (y us ((ok.2.trans ah).tup l));show⟨aD.refl _,Y_12 x b (c.mono ok.2)⟩
theorem JY{B:Hp}{p:Addr}{us:List V}{a:List PV}{n m:Bool}(l:bG X.K B p us)(r:aG X.K Hi m a B us)(c:imms a=true):lC X Hi (KJ X.K p) (OkB B) a n where
 go:=λH O i ok hi=>⟨us,us[i]'(by rwa[<- r.len]),ok.2.seq l,03⟩
 stop:=λH O ok=>⟨us,ok.2.seq l,by rw[r.len];show NB _⟩
 yld:=λH O i u H' ok hi y=>by let⟨e,y⟩:=y;subst e;let b:aG X.K Hi n a (aW H' O) us:=aG.imm c ok.1.tups (r.mono ok.2);let⟨x,d,f⟩:=b.at' (y us (ok.2.seq l));show⟨aD.refl _,Y_12 x d f⟩
theorem JX{B:Hp}{p:Addr}{us:List V}{a:List PV}{n m:Bool}(l:dg X.K B p us)(r:aG X.K Hi m a B us)(c:imms a=true):lC X Hi (KI X.K p) (OkB B) a n where
 go:=λH O i ok hi=>⟨us,us[i]'(by rwa[<- r.len]),ok.2.tup l,03⟩
 stop:=λH O ok=>⟨us,ok.2.tup l,by rw[r.len];show NB _⟩
 yld:=λH O i u H' ok hi y=>by let⟨e,y⟩:=y;subst e;let b:aG X.K Hi n a (aW H' O) us:=aG.imm c ok.1.tups (r.mono ok.2);let⟨x,d,f⟩:=b.at' (y us (ok.2.tup l));show⟨aD.refl _,Y_12 x d f⟩
def bz(z:Str):(signs z).length=z.cps.size:=by unfold signs;rw[M0,Ng]
def signs_at{i:Nat}(h:z.cps[i]? =some c):(signs z)[i]? =some (.str ⟨#[c]⟩):=by unfold signs;rw[NG,OW,h];rfl
theorem Lo{B:Hp}{z:Str}{n:Bool}:lC X Hi (Ms z) (Gk B) (signs z) n where
 go:=λH O i ok hi=>by rwa[bz]at hi
 stop:=λH O ok=>by change(signs z).length=z.cps.size;show bz z
 yld:=λH O i u H' ok hi y=>by show X_02 (λe=>X_12 λc a R3=> ?_) y;subst R3;subst e;show⟨aD.refl _,Y_12 _ (signs_at a) (Rp.str.mpr rfl)⟩
theorem xg{B:Hp}{b:Int}{k:Nat}{n:Bool}:lC X Hi (Gm b k) (Gk B) ((List.range k).map λi=>.int (b+(i:Nat))) n where
 go:=λH O i ok a=>by change i<k;simpa using a
 stop:=λH O ok=>by change k<=_;simp
 yld:=λH O i u H' ok a y=>by
  let⟨e,rfl⟩:=y;subst e;let a:i<k:=by simpa using a
  show⟨aD.refl _,Y_12 _ (by rw[NG,Nz a];rfl) (Rp.int.mpr rfl)⟩
theorem Cm{B:Hp}{b c:Int}{k:Nat}{n:Bool}:lC X Hi (Itc b c k) (Gk B) ((List.range k).map λi=>.int (b+(i:Nat)*c)) n where
 go:=λH O i ok a=>by change i<k;simpa using a
 stop:=λH O ok=>by change _=k;simp
 yld:=λH O i u H' ok a y=>by
  let⟨e,rfl⟩:=y;subst e;let a:i<k:=by simpa using a
  show⟨aD.refl _,Y_12 _ (by rw[NG,Nz a];rfl) (Rp.int.mpr rfl)⟩
open J
def HU(g:aL X Hi τ e r)(h:lz r=some (d,n,b)):qv X Hi τ w e d n b:=by
 intro O f H R c q;cases r with
 |frz v m =>
  cases v with
  |str z =>ext h;exists _,Hv aT,?_;show g O f H _ c λu H1 s1 r1=>(Y_12 z (r1.str c s1 rfl) (q _ _ s1 Lo))
  |lst a =>ext h;exists _,gu aT,?_;show g O f H _ c λu H1 s1 r1=> ?_;obtain⟨p,us,rfl,_,l,r⟩:=Rp.lst.mp (show Rp X.K Hi n (.lst d) (aW H1 O) u from r1);exists p,rfl,⟨us,(ah).seq l⟩,q _ _ s1 (Ge l (r.mono bZ))
  |tup a =>ext h;exists _,vO aT,?_;show g O f H _ c λu H1 s1 r1=> ?_;let⟨p,us,rfl,l,r⟩:=Rp.tup.mp (show Rp X.K Hi n (.tup d) (aW H1 O) u from r1);exists p,rfl,⟨us,(ah).tup l⟩,q _ _ s1 (Ln l r)
  |_=>ext h
 |bor v =>
  cases v with
  |lst a =>
   let h:(if imms a then some (a,true,true)else none)=some (d,n,b):=h
   split at h
   ·rename_i i
    ext h;exists _,gu aT,?_;show g O f H _ c λu H1 s1 r1=> ?_;obtain⟨p,us,rfl,_,l,r⟩:=Rp.lst.mp (show Rp X.K Hi false (.lst d) H1 u from r1);exists p,rfl,⟨us,l⟩,q _ _ s1 (JY l (r.mono bZ) i)
   ·ext h
  |tup a =>
   let h:(if imms a then some (a,true,true)else none)=some (d,n,b):=h
   split at h
   ·rename_i i
    ext h;exists _,vO aT,?_;show g O f H _ c λu H1 s1 r1=> ?_;let⟨p,us,rfl,l,r⟩:=Rp.tup.mp (show Rp X.K Hi false (.tup d) H1 u from r1);exists p,rfl,⟨us,l⟩,q _ _ s1 (JX l r i)
   ·ext h
  |_=>ext h
 |owd A a m=>ext h|own a m =>
  ext h;exists _,gu aT,?_;show g O f H _ c λu H1 s1 r1=> ?_;let⟨p,us,rfl,x,j,r⟩:=r1;let s:aW H1 O p=some (.lst us):=by
   unfold aW;rw[NJ λz=> ?_]
   ·show j
   ·let⟨y,o,_⟩:=(c.own p z).2
    rw[x]at o;ext o
  exists p,rfl,⟨us,bG.of j⟩,q _ _ s1 (Ge (bG.of s) (r.mono (aO bZ)))
def Hd{ct:Ct}(C:bj U X ct){m:List Expr}{A:List RV}{K:List PV}(Q:own ct ("range":Str)=true)(n:∀a∈m,aV a=false)(E:qx X Hi τ m A)(v:m.length=A.length)(h:fM A=some K) :
  qv X Hi τ M (.Call (.Name "range" p) m [] pos) K true false:=by
 intro O s H R f q;let⟨g,D⟩:=gU C Q;unfold fM at h
 split at h
 ·rename_i r
  cases e:r.val with
  |int j =>
   simp only[e]at h
   split at h
   ·rename_i c
    ext h
    match m,v with
    |[a],_ =>exists _,cP g D vP (aN (n a 03)),?_;show E O s H _ f λus H1 s1 r1=> ?_;let⟨u,J,rfl,o,z⟩:=r1;ext z;exists j,by rw[o.int f s1 e],c.1,c.2,q _ _ s1 xg
   ·ext h
  |_=>simp only[e]at h;ext h
 ·rename_i r x
  cases e:r.val with
  |int i =>
   cases l:x.val with
   |int j =>
    simp only[e,l]at h
    split at h
    ·rename_i c
     ext h
     match m,v with
     |[a,b],_ =>
      let S:starEach [a,b] X.env=[(false,eval a X.env),(false,eval b X.env)]:=by rw[aN (n a 03),aN (n b 03)];rfl
      exists _,yu g D vP S (aN (n b 03)),?_;show E O s H _ f λus H1 s1 r1=> ?_;show X_23 (λu J R2 o=>X_23 λT I R6 y z=> ?_) r1;subst R2 R6;ext z;exists i,j,by rw[o.int f s1 e,y.int f s1 l],c,q _ _ s1 xg
    ·ext h
   |_=>simp only[e,l]at h;ext h
  |_=>simp only[e]at h;ext h
 ·rename_i r x W
  cases e:r.val with
  |int i =>
   cases l:x.val with
   |int j =>
    cases w:W.val with
    |int k =>
     simp only[e,l,w]at h
     split at h
     ·rename_i c
      ext h
      match m,v with
      |[a,b,d],_ =>exists _,yt g D vP (aN (n a 03)) (lT λz hz=>n z (by simp at hz ⊢;rcases hz with rfl|rfl<;>simp)),?_;show E O s H _ f λus H1 s1 r1=> ?_;show X_23 (λu J R2 o=>X_23 λT I R6 y=>X_23 λY N R10 L z=> ?_) r1;subst R2 R6 R10;ext z;exists i,j,k,by rw[o.int f s1 e,y.int f s1 l,L.int f s1 w],c.1,c.2.1,c.2.2,q _ _ s1 Cm
     ·ext h
    |_=>simp only[e,l,w]at h;ext h
   |_=>simp only[e,l]at h;ext h
  |_=>simp only[e]at h;ext h
 ·ext h
open H
def Ep(R:aY X.K Hi O τ f H)(s:aD H a)(h:LY r=some (b,n))(d:ag X.K Hi O H a r u):∃p us,u=.ref p/\bG X.K (aW a O) p us/\aG X.K Hi n b (aW a O) us:=by
 cases r with
 |frz v m =>
  cases v with
  |lst c =>ext h;obtain⟨p,us,rfl,_,l,r⟩:=Rp.lst.mp (show Rp X.K Hi n (.lst b) (aW a O) u from d);exists p,us,rfl,l,r.mono bZ
  |_=>ext h
 |bor v=>ext h|owd q c m=>ext h|own c m =>
  ext h;let⟨p,us,rfl,j,i,r⟩:=d;let g:aW a O p=some (.lst us):=by
   unfold aW;rw[NJ λz=> ?_]
   ·show i
   ·let⟨o,e,_⟩:=(R.own p z).2
    rw[j]at e;ext e
  exists p,us,rfl,bG.of g,r.mono (aO bZ)
def qB{us:List V}(l:wH O H)(a:H p=none)(r:aG X.K Hi n b (aW H O) us):Rp X.K Hi n (.tup b) (aW (L2.upd H p (.tup us)) O) (.ref p):=by
 show Rp.tup.mpr (Y_23 p us rfl (dg.of ?_) (r.mono (aO (aM a _))));unfold aW;rw[NJ λz=> ?_]
 ·show aB
 ·let⟨us,e,_⟩:=l p z
  rw[e]at a;ext a
open J in
def FZ{ct:Ct}(C:bj Y X ct)(W:own ct ("enumerate":Str)=true)(x:aV a=false)(M:aL X Hi τ a T)(h:k7 T=some (Q,n)) :
  qv X Hi τ (.Tuple Z kt D) (.Call (.Name "enumerate" p) [a] [] pos) Q n false:=by
 intro O E H R A q;let⟨g,J⟩:=gU C W;unfold k7 at h
 split at h
 ·rename_i z m
  ext h;exists _,BR g J (aC aT aH (aN x)) (aN x),?_;show M O E H _ A λu H1 s1 r1=>⟨z,by rw[r1.str A s1 rfl],q _ _ s1 ?_⟩;let f:(List.zipWith eI (List.range z.length) (signs z)).length=z.length:=by rw[O0,bz,NT];show Pc _
  let d:=ly z;show⟨λG P i ok hi=> ?_,λG P ok=> ?_,λG P i w G' ok hi y=> ?_⟩
  ·rw[f]at hi
   exists _,(eA z)[i]'(00),rfl,by simp
  ·exists _,rfl,by rw[f,d]
  ·rw[f]at hi
   obtain⟨S,b,rfl,y⟩:=y;let U:i<z.cps.size:=hi;obtain⟨c,N⟩:∃c,z.cps[i]? =some c:=⟨z.cps[i],by simp[U]⟩;let o:(eA z)[i]? =some (.str ⟨#[c]⟩):=by unfold eA;rw[NG,OW,N];rfl
   let e:=y _ (.str ⟨#[c]⟩) rfl o;subst e;show⟨aM b _,Y_12 (eI i (.str ⟨#[c]⟩)) (by rw[P5,signs_at N,Nz hi]) (qB ok.1 b (.cons (Rp.int.mpr rfl) (.cons (Rp.str.mpr rfl) .nil)))⟩
 ·rename_i j m
  ext h;exists _,BQ g J (aC aT aH (aN x)) (aN x),?_;show M O E H _ A λu H1 s1 r1=> ?_;let⟨L,us,rfl,l,r⟩:=Rp.tup.mp (show Rp X.K Hi n (.tup j) (aW H1 O) u from r1);exists L,us,rfl,(ah).tup l,q _ _ s1 ?_;let f:(List.zipWith eI (List.range j.length) j).length=j.length:=by rw[O0,NT];show Pc _
  let d:=r.len;show⟨λG P i ok hi=> ?_,λG P ok=> ?_,λG P i w G' ok hi y=> ?_⟩
  ·rw[f]at hi
   exists us,us[i]'(00),(ok.2.trans ah).tup l,by simp
  ·exists us,(ok.2.trans ah).tup l,by rw[f,d]
  ·rw[f]at hi
   obtain⟨S,b,rfl,y⟩:=y;let o:us[i]? =some (us[i]'(00)):=by simp
   let e:=y us _ ((ok.2.trans ah).tup l) o;subst e;let⟨I,s,v⟩:=r.at' o;show⟨aM b _,Y_12 (eI i I) (by rw[P5,s,Nz hi]) (qB ok.1 b (.cons (Rp.int.mpr rfl) (.cons (v.mono ok.2) .nil)))⟩
 ·split at h
  ·rename_i j m e1
   ext h;exists _,su g J (aC aT aH (aN x)) (aN x),?_;show M O E H _ A λu H1 s1 r1=> ?_;let⟨L,us,rfl,l,r⟩:=Ep A s1 e1 r1;exists L,us,rfl,(ah).seq l,q _ _ s1 ?_;let f:(List.zipWith eI (List.range j.length) j).length=j.length:=by rw[O0,NT];show Pc _
   let d:=r.len;show⟨λG P i ok hi=> ?_,λG P ok=> ?_,λG P i w G' ok hi y=> ?_⟩
   ·rw[f]at hi
    exists us,us[i]'(00),(ok.2.trans ah).seq l,by simp
   ·exists us,(ok.2.trans ah).seq l,by rw[f,d]
   ·rw[f]at hi
    obtain⟨S,b,rfl,y⟩:=y;let o:us[i]? =some (us[i]'(00)):=by simp
    let e:=y us _ ((ok.2.trans ah).seq l) o;subst e;let⟨I,s,v⟩:=r.at' o;show⟨aM b _,Y_12 (eI i I) (by rw[P5,s,Nz hi]) (qB ok.1 b (.cons (Rp.int.mpr rfl) (.cons (v.mono ok.2) .nil)))⟩
  ·ext h
theorem kS{N:List Str}:∀{a:List Str}{b:List Nat},slots N a=some b->a.length=b.length
 |[],b,h=>by ext h;rfl|x::a,b,h=>by
  unfold slots at h;cases e:slot N x with
  |none=>rw[e]at h;ext h|some i =>
   rw[e]at h;cases c:slots N a with
   |none=>simp[c]at h|some d =>simp[c]at h;subst h;simp[kS c]
theorem sA{N:List Str}:∀{a:List Str}{b:List Nat}{j i:Nat},slots N a=some b->b[j]? =some i->∃x,a[j]? =some x/\N[i]? =some x
 |[],b,j,i,h,hj=>by ext h;simp at hj|x::a,b,j,i,h,hj=>by
  unfold slots at h;cases e:slot N x with
  |none=>rw[e]at h;ext h|some d =>
   rw[e]at h;cases c:slots N a with
   |none=>simp[c]at h|some f =>
    simp[c]at h;subst h;cases j with
    |zero =>simp at hj;subst hj;exists x,03,gp e
    |succ j=>simpa using sA c (by simpa using hj)
def mL{ct:Ct}{t:Str}{scope:Scope}(h:zD ct t scope=true):scope.kind=.function/\(∀y∈scope.names,y.2=.cell->scope.names.lookup y.1=some .cell)/\(∀y∈scope.names,y.2=.local->scope.names.lookup y.1=some .local) /\ (∀y∈scope.names,y.2=.free->(ct.S.lookup y.1=some .cell\/ct.S.lookup y.1=some .free))/\(t::frees scope).Nodup/\(scope.names.lookup t=some .local\/scope.names.lookup t=some .cell)/\∀x∈frees scope,scope.names.lookup x=some .free:=by
 unfold zD at h;simp only[M8]at h;obtain⟨⟨⟨⟨⟨⟨a,c⟩,f⟩,d⟩,b⟩,i⟩,g⟩:=h;show⟨Nh a,λy hy e=> ?_,λy hy e=> ?_,λy hy e=> ?_,Nj b,by simpa using i,λx hx=> ?_⟩
 ·have:=NV.mp c y hy
  rw[e]at this
  simpa using this
 ·have:=NV.mp f y hy
  rw[e]at this
  simpa using this
 ·have:=NV.mp d y hy
  rw[e]at this
  simpa using this
 ·have:=NV.mp g x hx
  simpa using this
theorem ja{a:Env}:∀{names:List (Str×NameKind)}{x:Str},names.lookup x=some .cell -> (names.map λ(n,k)=>if(k==NameKind.free&&a.scope.kind== .function&&a.kindOf n==some .cell)then(n,NameKind.cell)else(n,k)).lookup x=some .cell
 |[],_,h=>by simp at h|(n,k)::r,x,h=>by
  let d:= @ja a r x;change List.lookup x ((if(k==NameKind.free&&a.scope.kind== .function&&a.kindOf n==some .cell)=true then(n,NameKind.cell)else(n,k))::_)=_;cases b:x==n with
  |true =>simp only[N8,b]at h;ext h;rw[NJ 03];simp only[N8,b]
  |false =>
   simp only[N8,b]at h
   by_cases c:(k==NameKind.free&&a.scope.kind== .function&&a.kindOf n==some .cell)=true;rw[M9 c];simp only[N8,b];show d h;rw[NJ c];simp only[N8,b];show d h
def jT{scope:Scope}{t:Str}(h:scope.names.lookup t=some .local\/scope.names.lookup t=some .cell):L2.Loc (bU X d scope f e c b a).env.scope t:=by
 rcases h with h|h
 ·show .inl (lookup_relabel_local h)
 ·show .inr (ja h)
def lq{scope:Scope}{t:Str}(h:scope.names.lookup t=some .local\/scope.names.lookup t=some .cell):(bU X d scope f e c b a).fn t=true\/(bU X d scope f e c b a).env.scope.names.lookup t=some .local:=by
 rcases h with h|h
 ·show .inr (lookup_relabel_local h)
 ·left
  change(scope.names.lookup t==some .cell)=true;rw[h];rfl
open J in
def bj.blk{cd:Nat->List PV->Option PV}{ct:Ct}(C:bj cd X ct){t:Str}{scope:Scope}(h:zD ct t scope=true)(Cf:Addr)(s2:Shared)(H2:Hp)(fp:List Addr)(cl:List (Str×Addr)):bj cd (bU X (t::frees scope) scope Cf s2 H2 fp cl) (blk ct t scope):=by
 obtain⟨h1,h2,h3,h4,h5,h6,h7⟩:=mL h;show⟨rfl,h5,?_,h1,C.calm,C.glob,C.bl,C.fns,Ny,C.un⟩;change(scope.names.map fun(n,k)=>if(k==NameKind.free&&X.env.scope.kind== .function&&X.env.kindOf n==some .cell)then(n,NameKind.cell)else(n,k))=oN ct.S scope.names;unfold oN;show OM fun y hy=> ?_;obtain⟨n,k⟩:=y;let e:(X.env.scope.kind==ScopeKind.function)=true:=by rw[C.kind];rfl
 let e2:X.env.kindOf n=ct.S.lookup n:=by
  change X.env.scope.names.lookup n=_;rw[C.S]
 dsimp only;rw[e,e2]
def hJ{ct:Ct}{t:Str}{scope:Scope}(h:jt ct t a scope=true):scope.kind=.function/\(∀y∈scope.names,y.2=.cell->scope.names.lookup y.1=some .cell)/\(∀y∈scope.names,y.2=.local->scope.names.lookup y.1=some .local) /\ (∀y∈scope.names,y.2=.free->(ct.S.lookup y.1=some .cell\/ct.S.lookup y.1=some .free))/\(t::a::frees scope).Nodup/\(scope.names.lookup t=some .local\/scope.names.lookup t=some .cell)/\(scope.names.lookup a=some .local\/scope.names.lookup a=some .cell)/\∀x∈frees scope,scope.names.lookup x=some .free:=by
 unfold jt at h;simp only[M8]at h;obtain⟨⟨⟨⟨⟨⟨⟨b,f⟩,i⟩,g⟩,d⟩,l⟩,c⟩,j⟩:=h;show⟨Nh b,λy hy e=> ?_,λy hy e=> ?_,λy hy e=> ?_,Nj d,by simpa using l,by simpa using c,λx hx=> ?_⟩
 ·have:=NV.mp f y hy
  rw[e]at this
  simpa using this
 ·have:=NV.mp i y hy
  rw[e]at this
  simpa using this
 ·have:=NV.mp g y hy
  rw[e]at this
  simpa using this
 ·have:=NV.mp j x hx
  simpa using this
open J in
def bj.blk2{cd:Nat->List PV->Option PV}{ct:Ct}(C:bj cd X ct){t t2:Str}{scope:Scope}(h:jt ct t t2 scope=true)(Cf:Addr)(s2:Shared)(H2:Hp)(fp:List Addr)(cl:List (Str×Addr)):bj cd (bU X (t::t2::frees scope) scope Cf s2 H2 fp cl) (blk2 ct t t2 scope):=by
 obtain⟨h1,h2,h3,h4,h5,h6,h8,h7⟩:=hJ h;show⟨rfl,h5,?_,h1,C.calm,C.glob,C.bl,C.fns,Ny,C.un⟩;change(scope.names.map fun(n,k)=>if(k==NameKind.free&&X.env.scope.kind== .function&&X.env.kindOf n==some .cell)then(n,NameKind.cell)else(n,k))=oN ct.S scope.names;unfold oN;show OM fun y hy=> ?_;obtain⟨n,k⟩:=y;let e:(X.env.scope.kind==ScopeKind.function)=true:=by rw[C.kind];rfl
 let e2:X.env.kindOf n=ct.S.lookup n:=by
  change X.env.scope.names.lookup n=_;rw[C.S]
 dsimp only;rw[e,e2]
theorem jU{f:Nat->List PV->Option PV}{ct:Ct}(C:bj f X ct){scope:Scope}:∀{b:List Str}{a:List Nat},slots ct.N b=some a->(∀x∈b,scope.names.lookup x=some .free/\(ct.S.lookup x=some .cell\/ct.S.lookup x=some .free))->bn X scope b (a.map some)
 |[],a,h,_=>by ext h;show True.intro|x::b,a,h,k=>by
  unfold slots at h;cases e:slot ct.N x with
  |none=>rw[e]at h;ext h|some i =>
   rw[e]at h;cases c:slots ct.N b with
   |none=>simp[c]at h|some j =>simp[c]at h;subst h;let⟨g,d⟩:=k x M7;show⟨⟨by rw[C.N];show gp e,g,by rwa[C.S]⟩,jU C c λy hy=>k y (M4 _ hy)⟩
theorem Bq{t:TV}(h:t.ob=some x):t≠.un:=λe=>by subst e;ext h
def aY.block{K:W.Frag}{c:List Nat}(R:aY K Hi O τ y H)(nd:c.Nodup)(r:Rp K Hi n x (aW H O) u) :
  aY K Hi O (.frz x n::c.map λi=>τ.getD i .un) (some u::bg (c.map some) y) H:=by
 let d:∀(j:Nat)v,(c.map λi=>τ.getD i .un)[j]? =some v->v≠.un->∃i,c[j]? =some i/\τ[i]? =some v:=λj v e hv=>by
  rw[NG]at e;cases M:c[j]? with
  |none=>rw[M]at e;ext e|some i =>
   rw[M]at e;exists i,rfl,?_;let e:τ.getD i .un=v:=Nf e;rw[M6]at e;cases Q:τ[i]? with
   |none=>rw[Q]at e;show absurd e.symm hv|some w=>rw[Q]at e;show N6 some e
 let f:∀j i,c[j]? =some i->(bg (c.map some) y)[j]? =some ((y[i]?).join):=λj i e=>by unfold bg;rw[NG,NG,e];rfl
 show⟨R.same,R.own,λj v m e=> ?_,λj t bd ys m e ht=> ?_,λa b t t' x1 y1 l q ht p ht' g h=> ?_⟩
 ·cases j with
  |zero =>obtain⟨rfl,rfl⟩:=e;exists u,03,r
  |succ j =>let⟨i,g,h⟩:=d j _ (by simpa using e) 03;let⟨w,D,C⟩:=R.frz i v m h;exists w,by rw[OY,f j i g,D];rfl,C
 ·cases j with
  |zero =>simp at e;subst e;ext ht
  |succ j =>let⟨i,g,h⟩:=d j _ (by simpa using e) (Bq ht);let⟨l,us,o,D,C⟩:=R.obs i t bd ys m h ht;exists l,us,o,by rw[OY,f j i g,D];rfl,C
 ·cases a with
  |zero =>simp at q;subst q;ext ht
  |succ a =>
   cases b with
   |zero =>simp at p;subst p;ext ht'
   |succ b =>
    let⟨i,z,J⟩:=d a _ (by simpa using q) (Bq ht);let⟨j,s,I⟩:=d b _ (by simpa using p) (Bq ht');rw[OY,f a i z]at g;rw[OY,f b j s]at h;obtain⟨b1,E,S⟩:=x1;obtain⟨Z,A,n2⟩:=y1;let⟨l1,Y,o1,N,_⟩:=R.obs i t b1 E S J ht;let⟨l2,U,o2,L,_⟩:=R.obs j t' Z A n2 I ht';rw[N]at g;rw[L]at h;ext g;ext h;let e:=R.dst i j t t' _ _ l J ht I ht' N L;subst e
    congr 1
    let ha:=(NC.mp z).1;let T:=(NC.mp s).1;let q:c[a]=i:=by rw[M5 ha]at z;show Nf z
    let p:c[b]=i:=by rw[M5 T]at s;show Nf s
    show(List.getElem_inj nd).mp (q.trans p.symm)
theorem ig{N:List Str}:∀{b:List Str}{a:List Nat},slots N b=some a->b.Nodup->a.Nodup
 |[],a,h,_=>by ext h;show List.nodup_nil|x::b,a,h,nd=>by
  unfold slots at h;cases e:slot N x with
  |none=>rw[e]at h;ext h|some i =>
   rw[e]at h;cases c:slots N b with
   |none=>simp[c]at h|some j =>simp[c]at h;subst h;show Np.mpr ⟨λhm=> ?_,ig c (Np.mp nd).2⟩;let⟨k,g⟩:=List.mem_iff_getElem?.mp hm;let⟨y,f,d⟩:=sA c g;rw[gp e]at d;ext d;show(Np.mp nd).1 (NS f)
open J in
def aY.hide{K:W.Frag}{us:List V}(R:aY K Hi O τ j H)(s:aD H a)(m:H D=none)(x:a D=some (.lst us)):aY K Hi (D::O) τ j a :=by
 let h:aD (aW H O) (aW a (D::O)):=λb o e=>by
  unfold aW at e ⊢
  split at e;ext e
  ·rename_i w
   rw[NJ (by simp[aE e m,w])];show s b o e
 show⟨R.same.trans s,λl c=> ?_,λi v n e=> ?_,λi t b xs n e ht=> ?_,R.dst⟩
 ·rcases NH.mp c with rfl|c
  ·show⟨R.same.free m,Y_12 _ x .lst⟩
  ·show X_02 (λq=>X_12 λd e r=> ?_) (R.own l c)
   show⟨q,Y_12 d (s _ _ e) r⟩
 ·let⟨u,g,f⟩:=R.frz i v n e
  exists u,g,f.mono h
 ·let⟨l,d,o,g,f,z,A,p⟩:=R.obs i t b xs n e ht
  exists l,d,o,g,M4 _ f,s _ _ z,A,p.mono h
def p8(h:cZ e=false):∀x,foldedSetIterable e d x=pure x:=by
 intro x;cases e with
 |Set a b c=>ext h|_=>rfl
def MQ(d:Nat->List PV->Option PV)(c:Gn)(a:IE)(n:Bool)(e:En):PV->Option (Option (PV×Bool)):=λx=>(kb d c (.frz x (n||imm x)::e)).bind λb=>if b then(aX d a (.frz x (n||imm x)::e)).bind λr=>r.keep.map some else some none
open J in
def CC{scope:Scope}
  (b3:qv X Hi τ tg T f n b) (hz:f.length<=LN) (a4:∀(Cf:Addr)(s2:Shared)(H2:Hp)(fp:List Addr)(cl:List (Str×Addr)),bj M (bU X Nn scope Cf s2 H2 fp cl) W)
  (a8:∀(X' :Cx)(J :En)(k:Bool),bj M X' W->kb M L J =some k->∃tt,zt X' a' tt/\∀(O:List Addr)(E:L2.St)(H:Hp)(Q:Bool->Hp->Prop),aY X'.K Hi O J E H->(∀H',aD H H' ->Q k H')->tt E H Q)
  (a9:∀(X' :Cx)(J :En)(r:RV),bj M X' W->aX M p J =some r->aL X' Hi J a3 r)
  (a2:∀(O:List Addr)(E:L2.St)(D:Addr)(x:PV)(Y:Option (PV×Bool))(u:V)(N :Hp)(Cf:Addr)(s2:Shared)(H2:Hp)(fp:List Addr)(cl:List (Str×Addr)),CF x=some Y->aY X.K Hi (D::O) τ E N ->Rp X.K Hi n x (aW N (D::O)) u -> ∃(h:En)(U:L2.St)(g:TG),((kb M L h).bind λt=>if t then(aX M p h).bind λr=>r.keep.map some else some none)=some Y/\aY X.K Hi (D::O) h U N /\PG (bU X Nn scope Cf s2 H2 fp cl) tg g /\ ∀K:L2.St->Hp->Prop,K U N ->g u (bg Z E) N λσ2 H3=>(σ2.length=Nn.length/\∀(j:Nat)(v:V),(bg Z E)[j]? =some (some v)->σ2[j]? =some (some v))/\K σ2 H3)
  (a7:cG CF f=some (VS,NN)) (O:List Addr) (E:L2.St) (H:Hp) (Q:VK) (R:aY X.K Hi O τ E H) (q:∀u H',aD H H' ->ag X.K Hi O H H' (.own VS NN) u->Q u H'):HJ X Nn Z scope tg a' a3 (λσ H R=>WI X tg T E H R) E H Q:=by
 show b3 O E H _ R λJ H1 s1 En=> ?_;intro D hD;let ok:∀(G:Hp)(s:List V),aD H1 G->G D=some (.lst s)->(if b=true then OkB H1 else Gk (aW H1 O)) G (D::O):=by
  intro G s I gD;let ls:wH (D::O) G:=λl hl=>by
   rcases NH.mp hl with rfl|hl
   ·exists _,gD,.lst
   ·let⟨us,e,mo⟩:=(R.own l hl).2
    exists us,I _ _ (s1 _ _ e),mo
  cases b with
  |true=>show⟨ls,I⟩|false =>
   show⟨ls,λc o e=> ?_⟩;unfold aW at e ⊢
   split at e;ext e
   ·rename_i nb
    let ne:c≠D:=aE e hD;rw[NJ (by simp[ne,nb])];show I c o e
 exists λi m s G=>m=f.length-i/\i<=f.length/\aD H1 G/\G D=some (.lst s)/\s.length<=i/\∃dn ws mm,cG CF (f.drop i)=some (ws,mm)/\VS=dn++ws/\(NN=true->mm=true)/\aG X.K Hi NN dn (aW G (D::O)) s,⟨f.length,03,No _,aM hD _,aB,NB _,[],VS,NN,a7,rfl,id,.nil⟩,?_
 intro i m s G zm;show X_06 (λR0 hi I gD b5=>X_34 λdn ws mm a hv hn hr=> ?_) zm;subst R0
 by_cases C:i<f.length
 ·show .inr ⟨En.go G (D::O) i (ok G s I gD) C,λu N y=> ?_⟩
  show X_02 (λA=>X_12 λx hx rx=> ?_) (En.yld G (D::O) i u N (ok G s I gD) C y);intro Cf s2 H2 fp cl;let C' :=a4 Cf s2 H2 fp cl;let hd:f.drop i=x::f.drop (i+1):=by rw[Os C];rw[M5 C]at hx;rw[Nf hx]
  rw[hd]at a;unfold cG at a;cases d:CF x with
  |none=>rw[d]at a;ext a|some Y =>
   rw[d]at a;cases S:cG CF (f.drop (i+1))with
   |none=>rw[S]at a;ext a|some w =>
    obtain⟨a6,a5⟩:=w;rw[S]at a;let a0 :N D=some (.lst s):=A _ _ gD;let⟨h,U,g,d,RB,pg,hg⟩:=a2 O E D x Y u N Cf s2 H2 fp cl d (R.hide (s1.trans (I.trans A)) (s1.free hD) a0) rx;cases a1:kb M L h with
    |none=>rw[a1]at d;ext d|some k =>
     rw[a1]at d;let⟨tt,b4,b0⟩:=a8 _ _ _ C' a1;exists g,tt,_,pg,b4,aT,hg _ ?_;show b0 (D::O) _ N _ RB λG4 s4=> ?_;cases k with
     |false =>rw[NJ ND];ext d;ext a;show⟨f.length-(i+1),00,rfl,C,I.trans (A.trans s4),s4 _ _ a0,00,dn,ws,mm,S,hv,hn,hr.mono (aO (A.trans s4))⟩
     |true =>
      rw[M9 rfl];cases he:aX M p h with
      |none=>rw[he]at d;ext d|some r =>
       rw[he]at d;let d:r.keep.map some=some Y:=d;cases hk:r.keep with
       |none=>rw[hk]at d;ext d|some vn =>
        obtain⟨v,nv⟩:=vn;rw[hk]at d;ext d;ext a;show a9 _ _ _ C' he (D::O) _ G4 _ (RB.ext s4) λw G5 s5 r5=> ?_;show⟨s5 _ _ (s4 _ _ a0),by rw[eZ];lia,f.length-(i+1),00,rfl,C,(I.trans (A.trans (s4.trans s5))).upd hD,aB,by rw[NO];simp;lia,dn++[v],a6,a5,S,by rw[hv];simp,λz=> ?_,?_⟩
        ·have:=hn z
         rw[M8]at this;show this.2
        ·let e:aW (L2.upd G5 D (.lst (s++[w]))) (D::O)=aW G5 (D::O):=by
          funext c
          unfold aW
          split;rfl
          ·rename_i nc
           show aA λz=>nc (z▸M7)
         rw[e];show(hr.mono (aO (A.trans (s4.trans s5)))).app (.cons ((r5.keep (RB.ext s4) s5 hk).low λz=> ?_) .nil);have:=hn z;rw[M8]at this;show this.1
 ·let e:i=f.length:=by lia
  subst e;rw[List.drop_length]at a;ext a;show .inl ⟨En.stop G (D::O) (ok G s I gD),q _ _ (s1.trans I) ?_⟩;exists D,s,rfl,s1.free hD,gD,?_;rw[hv,OK];show hr.mono λc o e=> ?_;unfold aW at e;unfold aW del
  split at e;ext e
  ·rename_i nc
   let n1:c≠D:=λz=>nc (z▸M7);let n2:c∉O:=λz=>nc (M4 _ z);rwa[NJ n2,NJ n1]
def Ez{ct:Ct}(C:bj l X ct){t:Str}{elt:Expr}{ifs:List Expr}{scope:Scope}
  (h:zD ct t scope=true) (E:slots ct.N (frees scope)=some a) (a0:cZ c=false) (I:qv X Hi τ (.Name t J) c L n b) (hz:L.length<=LN)
  (A:∀(o :Cx)(d :En)(k:Bool),bj l o (blk ct t scope)->kb l f d =some k->∃tt,zt o ifs tt/\∀(O:List Addr)(g:L2.St)(H:Hp)(Q:Bool->Hp->Prop),aY o.K Hi O d g H->(∀m,aD H m ->Q k m)->tt g H Q)
  (s:∀(o :Cx)(d :En)(r:RV),bj l o (blk ct t scope)->aX l j d =some r->aL o Hi d elt r)
  (q:cG (MQ l f j n (a.map λi=>τ.getD i .un)) L=some (W,U)):bn X scope (t::frees scope) (none::a.map some)/\fB X.env.scope scope=true /\ ∀(O:List Addr)(g:L2.St)(H:Hp)(Q:VK),aY X.K Hi O τ g H->(∀u m,aD H m ->ag X.K Hi O H m (.own W U) u->Q u m)->HJ X (t::frees scope) (none::a.map some) scope (.Name t J) ifs elt (λσ H R=>WI X (.Name t J) c g H R) g H Q:=by
 let⟨h1,h2,h3,Y,h5,T,Z⟩:=mL h;let p:=λx hx=>Nx (Z x hx);let M:fB X.env.scope scope=true:=by
  unfold fB;rw[NV];intro y hy;rw[C.S]
  by_cases e:y.2=.free
  ·rcases Y y hy e with z|z<;>simp[e,z]
  ·simp[e]
 show⟨jU C E λx hx=>⟨Z x hx,Y _ (p x hx) rfl⟩,M,CC I hz (C.blk h) A s (λO g D x r0 u G' Cf s2 H2 fp cl hf R rx=> ?_) q⟩;exists _,some u::bg (a.map some) g,mU 0,hf,R.block (ig E (Np.mp h5).2) rx.up,ak h5 rfl (jT T) (lq T),λK k=>⟨uf (by simp[kS E]),k⟩
def aY.consF{K:W.Frag}(R:aY K Hi O τ f H)(r:Rp K Hi n x (aW H O) u):aY K Hi O (.frz x n::τ) (some u::f) H:=by
 show⟨R.same,R.own,λj v m e=> ?_,λj t bd ys m e ht=> ?_,λa b t t' x1 y1 l e1 ht e2 ht' h1 h2=> ?_⟩
 ·cases j with
  |zero =>obtain⟨rfl,rfl⟩:=e;exists u,03,r
  |succ j =>let⟨w,c,d⟩:=R.frz j v m (by simpa using e);exists w,by simpa using c,d
 ·cases j with
  |zero =>simp at e;subst e;ext ht
  |succ j =>let⟨l,us,o,c,d⟩:=R.obs j t bd ys m (by simpa using e) ht;exists l,us,o,by simpa using c,d
 ·cases a with
  |zero =>simp at e1;subst e1;ext ht
  |succ a =>
   cases b with
   |zero =>simp at e2;subst e2;ext ht'
   |succ b=>rw[R.dst a b t t' x1 y1 l (by simpa using e1) ht (by simpa using e2) ht' (by simpa using h1) (by simpa using h2)]
def o9{b:List Str}(h:r.length+2=b.length) :
  (((bg (none::none::r) a).set 0 (some x)).set 1 (some y)).length=b.length/\∀(j:Nat)(v:V),(bg (none::none::r) a)[j]? =some (some v)->(((bg (none::none::r) a).set 0 (some x)).set 1 (some y))[j]? =some (some v):=by
 show⟨by rw[OU,OU];simp[bg,h],λj v e=> ?_⟩;cases j with
 |zero=>simp[bg]at e|succ j =>
  cases j with
  |zero=>simp[bg]at e|succ j=>simpa [bg]using e
def Cv(e:Nat->List PV->Option PV)(d:Gn)(c:IE)(n:Bool)(f:En):PV->Option (Option (PV×Bool)):=λx=>(jk x).bind λ(a,b)=>(kb e d (.frz a (n||imm a)::.frz b (n||imm b)::f)).bind λt=>if t then(aX e c (.frz a (n||imm a)::.frz b (n||imm b)::f)).bind λr=>r.keep.map some else some none
def CB{ct:Ct}(C:bj p X ct){t:Str}{m o:Pos}{elt:Expr}{ifs:List Expr}{scope:Scope}
  (h:jt ct t f scope=true) (T:slots ct.N (frees scope)=some a) (a1:cZ c=false) (U:qv X Hi τ (.Tuple [.Name t W,.Name f m] Z o) c Y n b) (hz:Y.length<=LN)
  (L:∀(s :Cx)(d :En)(k:Bool),bj p s (blk2 ct t f scope)->kb p g d =some k->∃tt,zt s ifs tt/\∀(O:List Addr)(j:L2.St)(H:Hp)(Q:Bool->Hp->Prop),aY s.K Hi O d j H->(∀q,aD H q ->Q k q)->tt j H Q)
  (E:∀(s :Cx)(d :En)(r:RV),bj p s (blk2 ct t f scope)->aX p l d =some r->aL s Hi d elt r)
  (A:cG (Cv p g l n (a.map λi=>τ.getD i .un)) Y=some (VS,NN)):bn X scope (t::f::frees scope) (none::none::a.map some)/\fB X.env.scope scope=true /\ ∀(O:List Addr)(j:L2.St)(H:Hp)(Q:VK),aY X.K Hi O τ j H->(∀u q,aD H q ->ag X.K Hi O H q (.own VS NN) u->Q u q)->HJ X (t::f::frees scope) (none::none::a.map some) scope (.Tuple [.Name t W,.Name f m] Z o) ifs elt (λσ H R=>WI X (.Tuple [.Name t W,.Name f m] Z o) c j H R) j H Q:=by
 let⟨h1,h2,h3,h4,h5,h6,h8,h7⟩:=hJ h;let v:=λx hx=>Nx (h7 x hx);let a0:fB X.env.scope scope=true:=by
  unfold fB;rw[NV];intro y hy;rw[C.S]
  by_cases e:y.2=.free
  ·rcases h4 y hy e with z|z<;>simp[e,z]
  ·simp[e]
 show⟨jU C T λx hx=>⟨h7 x hx,h4 _ (v x hx) rfl⟩,a0,CC U hz (C.blk2 h) L E (λO j D x r0 u G' Cf s2 H2 fp cl hf R rx=> ?_) A⟩;unfold Cv at hf;obtain⟨x1,x2,rfl⟩:∃x1 x2,x=.tup [x1,x2]:=by
  cases M:jk x with
  |none=>rw[M]at hf;ext hf|some w =>
   unfold jk at M
   split at M;exists _,_,rfl;ext M
 let⟨pa,us,rfl,lt,rt⟩:=Rp.tup.mp rx;obtain⟨u1,a3,rfl,ra,rt⟩:=rt;obtain⟨u2,a2,rfl,rb,rt⟩:=rt;subst rt
 exists _,some u1::some u2::bg (a.map some) j,_,hf,(R.block (ig T (Np.mp (Np.mp h5).2).2) rb.up).consF ra.up,mE (C.blk2 h Cf s2 H2 fp cl).calm (cB (ak h5 rfl (jT h6) (lq h6)) (cB (ak h5 rfl (jT h8) (lq h8)) jg rfl) rfl) rfl rfl,λK k=>⟨pa,_,rfl,(ah).tup lt,rfl,u1,_,rfl,u2,_,rfl,rfl,⟨o9 (by simp[kS T]),k⟩⟩
def EW{t:TE}(h:PE X e t):PE X e (λσ H Q=>t σ H λv H' =>∃a o kvs,H' a=some (.frz o (.dK kvs))/\NF X a/\Q v (L2.upd H' a (.dK kvs))):=by intro pins s σ H Q I hr;show ar (h pins s σ H _ I hr) λu s1 q=> ?_;show X_23 (λv H' I' rv=>X_33 λa o kvs ha nf q=> ?_) q;exists v,_,I'.unknown nf ha,rv,q
open J in
def CA(h:zC d=some r):∃a b n c,d=.frz (.dK a b) n/\a.length<=LN/\Db a b=some c/\r=.own (c.map λq=>.tup [.int q.2,.int q.1]) true:=by
 unfold zC at h
 split at h
 ·split at h
  ·rename_i a b n f
   cases e:Db a b with
   |none=>rw[e]at h;ext h|some c=>rw[e]at h;ext h;show⟨_,_,_,_,rfl,f,e,rfl⟩
  ·ext h
 ·ext h
theorem wk{n:Bool}:∀{b:List af}{a:List PV}{c:List (Int×Int)}{G:Hp}{us:List V},Db b a=some c->aG X.K Hi n a G us->b.zip us=c.map (λq=>(Sum.inl q.1,V.int q.2))/\c.length=b.length
 |[],a,c,G,us,h,r=>by
  cases a with
  |nil=>ext h;show⟨rfl,rfl⟩|cons v a=>ext h
 |k::b,a,c,G,us,h,r=>by
  cases a with
  |nil=>ext k<;>ext h|cons v a =>
   cases k with
   |inr z=>ext v<;>ext h|inl k =>
    cases v with
    |int v =>
     let h:(Db b a).map ((k,v)::·)=some c:=h;cases e:Db b a with
     |none=>rw[e]at h;ext h|some m =>rw[e]at h;ext h;let⟨u,d,rfl,f,g⟩:=r;let⟨l,i⟩:=wk e g;let j:=Rp.int.mp f;subst j;show⟨by rw[O9,l];rfl,by simp[i]⟩
    |_=>ext h
def EG{K:W.Frag}{G:Hp}{O:List Addr}{a b:Int}(c:∀l∈O,∃o,G l=some o/\Mo o):aY K (λ_=>none) O [.frz (.int a) true,.frz (.int b) true] [some (.int a),some (.int b)] G:=by
 show⟨λ_ _ e=>(by ext e),λl hl=>⟨rfl,c l hl⟩,λj v m e=> ?_,λj t bd ys m e ht=> ?_,λi j t t' x y l e1 ht=> ?_⟩
 ·match j,e with
  |0,e=>ext e;exists _,rfl,Rp.int.mpr rfl|1,e=>ext e;exists _,rfl,Rp.int.mpr rfl|j+2,e=>simp at e
 ·match j,e with
  |0,e=>ext e;ext ht|1,e=>ext e;ext ht|j+2,e=>simp at e
 ·match i,e1 with
  |0,e=>ext e;ext ht|1,e=>ext e;ext ht|j+2,e=>simp at e
theorem nj{G v :Hp}{O:List Addr}{p:Addr}{H:Obj}{j:List (af×V)}(n:G p=some (.frz H (.dK j))):∀{l:List (Int×Int)}{i:List V},aG X.K Hi true (l.map λq=>PV.tup [.int q.2,.int q.1]) (aW G O) i->(∀c o,aW G O c=some o->c≠p->v c=some o)->aG X.K Hi true (l.map λq=>PV.tup [.int q.2,.int q.1]) v i
 |[],i,h,_=>h|q::l,i,h,m=>by
  rw[NE]at h ⊢;let⟨u,r,rfl,y,C⟩:=h;let⟨a,us,rfl,b,f⟩:=Rp.tup.mp y;show .cons (Rp.tup.mpr (Y_23 a us rfl ?_ ?_)) (nj n C m)
  ·let s:∀o,aW G O a=some o->(∀d g,o≠.frz d (.dK g))->a≠p:=λo e hn z=>by
    subst z;have:=ah _ _ e;rw[n]at this;ext this;show hn _ _ rfl
   rcases b with(b|⟨d,b⟩)|b
   ·show .inl (.inl (m _ _ b (s _ b λ_ _ z=>by ext z)))
   ·show .inl (.inr ⟨d,m _ _ b (s _ b λ_ _ z=>by ext z)⟩)
   ·show .inr b
  ·unfold aG at f ⊢
   obtain⟨x,t1,rfl,D,f⟩:=f;exists x,t1,rfl,Rp.int.mpr (Rp.int.mp D),?_;obtain⟨A,E,rfl,w,f⟩:=f;exists A,E,rfl,Rp.int.mpr (Rp.int.mp w),f
theorem yQ{A B:Hp->Prop}(q:A H):rh a H (λb H4=>if b=true then A H4 else B H4):=kY (B:=B H) q
open J in
def Ie{cd:Nat->List PV->Option PV}{ct:Ct}(C:bj cd X ct){k:Nat}{scope:Scope}(h:jt ct x y scope=true)(hf:frees scope=[])
  (v0:dS (blk2 ct x y scope) x=.var 0) (v1:dS (blk2 ct x y scope) y=.var 1) (hsub:plainB d=true) (hline:(ap.endLine==cp.line)=true) (hd:aL X Hi τ d ra) (hr:zC ra=some r) :
  aL X Hi τ (.ListComp (.Tuple [.Name y p4,.Name x p5] k2 p6) [⟨.Tuple [.Name x p1,.Name y p2] k p3,.Call (.Attribute d "items" ap) [] [] cp,[],0⟩] scope lp) r:=by
 show X_41 (λks vs nn qs=>X_04 λR4 hz hs R7=> ?_) (CA hr);subst R4 R7;let⟨h1,h2,h3,h4,h5,h6,h8,h7⟩:=hJ h;let hc:slots ct.N (frees scope)=some []:=by rw[hf];rfl
 let hsrc:bn X scope (x::y::frees scope) (none::none::[]):=jU C hc λz hz=>⟨h7 z hz,h4 _ (Nx (h7 z hz)) rfl⟩;let hfr:fB X.env.scope scope=true:=by
  unfold fB;rw[NV];intro y hy;rw[C.S]
  by_cases e:y.2=.free
  ·rcases h4 y hy e with z|z<;>simp[e,z]
  ·simp[e]
 let hbase:attributeBase d "items" X.env (eval d X.env)=eval d X.env:=by ext d<;>first|rfl|ext hsub
 intro O σ H Q R q;show we (EW (wy C.calm (tM aT hbase hline) hsrc h1 h2 h3 hfr (λ_=>rfl))) ?_;show hd O σ H _ R λu H1 s1 r1=> ?_;let⟨p,us,rfl,_,hp,hl,rl⟩:=r1;let⟨e1,e2⟩:=wk hs rl;let hpO:p∉O:=λz=>by unfold aW at hp;rw[M9 z]at hp;ext hp
 let hp:=ah _ _ hp;rw[e1]at hp;exists p,_,rfl,hp,λo nf D hD=> ?_;let hDp:D≠p:=λe=>by subst e;rw[aB]at hD;ext hD
 let hD1:H1 D=none:=by rwa[aA hDp]at hD
 let hp' :∀G,aD (L2.upd H1 p (.frz o (.dK (qs.map λq=>(Sum.inl q.1,V.int q.2))))) G->G p=some (.frz o (.dK (qs.map λq=>(Sum.inl q.1,V.int q.2)))):=λG s=>s _ _ aB;let hO:∀G ys,aD (L2.upd H1 p (.frz o (.dK (qs.map λq=>(Sum.inl q.1,V.int q.2))))) G->G D=some (.lst ys)->∀l∈D::O,∃ob,G l=some ob/\Mo ob:=λG ys sG gD l hl=>by
  rcases NH.mp hl with rfl|hl
  ·exists _,gD,.lst
  ·let⟨ob,e,mo⟩:=(R.own l hl).2
   exists ob,sG _ _ (by rw[aA (λz:l=p=>hpO (by rwa[<- z]))];show s1 _ _ e),mo
 exists λi m ys G=>m=qs.length-i/\i<=qs.length/\aD (L2.upd H1 p (.frz o (.dK (qs.map λq=>(Sum.inl q.1,V.int q.2))))) G/\G D=some (.lst ys)/\ys.length=i/\aG X.K Hi true ((qs.take i).map λq=>PV.tup [.int q.2,.int q.1]) (aW G (D::O)) ys,⟨qs.length,03,No _,aM hD _,aB,rfl,.nil⟩,?_
 intro j m ys G zm;let⟨rfl,hj,sG,gD,hyl,hv⟩:=zm
 by_cases hlt:j<qs.length
 ·show .inr ⟨⟨hp' G sG,by rwa[M0]⟩,λu G' y' => ?_⟩
  obtain⟨a,ha,rfl,y'⟩:=y';let e:=y' (.inl qs[j].1) (.int qs[j].2) (by simp[hlt]);subst e;intro Cf s2 H2 fp cl;let C' :=C.blk2 h Cf s2 H2 fp cl;let sGG:aD G (L2.upd G a (.tup [kV (.inl qs[j].1),.int qs[j].2])):=aM ha _;exists _,_,_,mE C'.calm (cB (ak (i:=0) h5 rfl (jT h6) (lq h6)) (cB (ak (i:=1) h5 rfl (jT h8) (lq h8)) jg rfl) rfl) rfl rfl,gH,aT,?_;show⟨a,_,rfl,dg.of aB,rfl,_,_,rfl,_,_,rfl,rfl,⟨o9 (by rw[hf];rfl),?_⟩⟩;let eσ:((bg (none::none::[]) σ).set 0 (some (kV (.inl qs[j].1)))).set 1 (some (.int qs[j].2))=[some (.int qs[j].1),some (.int qs[j].2)]:=by simp[bg,kV]
  rw[eσ];let hn0:aX cd (dS (blk2 ct x y scope) x) [.frz (.int qs[j].1) true,.frz (.int qs[j].2) true]=some (sc (.int qs[j].1)):=by rw[v0];rfl
  let hn1:aX cd (dS (blk2 ct x y scope) y) [.frz (.int qs[j].1) true,.frz (.int qs[j].2) true]=some (sc (.int qs[j].2)):=by rw[v1];rfl
  let gD' :=sGG _ _ gD;show yQ ?_
  let hT:aL (bU X (x::y::frees scope) scope Cf s2 H2 fp cl) (λ_=>none) [.frz (.int qs[j].1) true,.frz (.int qs[j].2) true] (.Tuple [.Name y p4,.Name x p5] k2 p6) (.frz (.tup [.int qs[j].2,.int qs[j].1]) true) :=
   AU (qp (qD C' hn1) rfl (qp (qD C' hn0) rfl DL)) rfl rfl
  show hT (D::O) _ _ _ (EG (K:=X.K) (O:=D::O) (a:=qs[j].1) (b:=qs[j].2) (hO _ _ (sG.trans sGG) gD')) λw G5 s5 r5=> ?_;let⟨a5,us5,rfl,sq5,r6⟩:=Rp.tup.mp r5;let r6:us5=[.int qs[j].2,.int qs[j].1]:=by obtain⟨u1,t1,rfl,q1,r6⟩:=r6;obtain⟨u2,t2,rfl,q2,r6⟩:=r6;unfold aG at r6;rw[r6,Rp.int.mp q1,Rp.int.mp q2]
  subst r6;show⟨s5 _ _ gD',by rw[eZ];lia,qs.length-(j+1),00,rfl,hlt,(sG.trans (sGG.trans s5)).upd hD,aB,by rw[NO,hyl];rfl,?_⟩;let e:aW (L2.upd G5 D (.lst (ys++[.ref a5]))) (D::O)=aW G5 (D::O):=by
   funext c
   unfold aW
   split;rfl
   ·rename_i nc
    show aA λz=>nc (z▸M7)
  rw[e,OO,M5 hlt,NP];show(hv.mono (aO (sGG.trans s5))).app (.cons (Rp.tup.mpr (Y_23 a5 _ rfl sq5 (.cons (Rp.int.mpr rfl) (.cons (Rp.int.mpr rfl) .nil)))) .nil)
 ·let e:j=qs.length:=by lia
  subst e;show .inl ⟨⟨hp' G sG,by rw[M0]⟩,Y_33 p o _ (hp' G sG) nf ?_⟩;show q _ _ (λb ob e=> ?_) ⟨D,ys,rfl,s1.free hD1,by rwa[aA hDp],?_⟩
  ·let e' :=s1 _ _ e
   by_cases hb:b=p
   ·subst hb
    rw[hp]at e';ext e';show aB
   ·rw[aA hb]
    show sG _ _ (by rwa[aA hb])
  ·rw[N7]at hv
   show nj (p:=p) (hp' G sG) hv λc ob e nc=> ?_;unfold aW at e;unfold aW del
   split at e;ext e
   ·rename_i nc2
    let n1:c≠D:=λz=>nc2 (z▸M7);let n2:c∉O:=λz=>nc2 (M4 _ z);rwa[NJ n2,NJ n1,aA nc]
end
open H
def bind_some{c d:Type}{o:Option c}{f:c->Option d}{b:d}(h:o.bind f=some b):∃a,o=some a/\f a=some b:=by
 cases o with
 |none=>ext h|some a=>exists a,rfl,h
def map_some{c d:Type}{o:Option c}{f:c->d}{b:d}(h:o.map f=some b):∃a,o=some a/\f a=b:=by
 cases o with
 |none=>ext h|some a=>exists a,rfl,Nf h
structure lD(cd:Nat->List PV->Option PV)(n:Nat):Prop where
 e:∀(X:Cx)(ct:Ct)(Hi:Hp)(τ:En)(e:Expr)(r:RV),bj cd X ct->aX cd (ai n ct e) τ=some r->aL X Hi τ e r
 cm:∀(X:Cx)(ct:Ct)(Hi:Hp)(τ:En)(a:Expr)(ops:List CmpOp)(cs:List Expr)(pos:Pos)(r:RV),bj cd X ct->aX cd (ai n ct (.Compare a ops cs pos)) τ=some r->∃t,r=sc (.bl t)/\fm X Hi τ (.Compare a ops cs pos) t
 es:∀(X:Cx)(ct:Ct)(Hi:Hp)(τ:En)(es:List Expr)(rs:List RV),bj cd X ct->eJ cd (eX n ct es) τ=some rs->qx X Hi τ es rs/\(∀a∈es,aV a=false)/\es.length=rs.length/\∀(i:Nat)(a:Expr)(r:RV),es[i]? =some a->rs[i]? =some r->aL X Hi τ a r
 o:∀(X:Cx)(ct:Ct)(Hi:Hp)(τ:En)(e:Option Expr)(o:Option RV)(i:Option Int),bj cd X ct->JR cd (GJ n ct e) τ=some o->tw o=some i->zu X Hi τ e i
 c:∀(X:Cx)(ct:Ct)(Hi:Hp)(τ:En)(e:Expr)(b:Bool),bj cd X ct->hZ cd (n6 n ct e) τ=some b->fm X Hi τ e b
 call:∀(X:Cx)(ct:Ct)(Hi:Hp)(τ:En)(x:Str)(es:List Expr)(p pos:Pos)(r:RV),bj cd X ct->aX cd (kP n ct x es) τ=some r->aL X Hi τ (.Call (.Name x p) es [] pos) r
 mth:∀(X:Cx)(ct:Ct)(Hi:Hp)(τ:En)(o:Expr)(m:Str)(es:List Expr)(ap cp:Pos)(r:RV),bj cd X ct->(ap.endLine==cp.line)=true->aX cd (nz n ct o m es) τ=some r->aL X Hi τ (.Call (.Attribute o m ap) es [] cp) r
 t:∀(X:Cx)(ct:Ct)(Hi:Hp)(τ:En)(tp:Bool)(e tg:Expr)(xs:List PV)(k b:Bool),bj cd X ct->(tp=true->∃ts kk p,tg=.Tuple ts kk p)->uq cd (AZ n ct tp e) τ=some (xs,k,b)->qv X Hi τ tg e xs k b/\cZ e=false
section
variable{cd:Nat->List PV->Option PV}
def kj(h:lB v=some b):v=.bl b:=by ext v<;>first|(ext h;done)|(ext h;rfl)
def CP(h:E8 v=some b):v=.int b:=by ext v<;>first|(ext h;done)|(ext h;rfl)
def vS{c:Type}{l:List c}(h:l.length=1):∃a,l=[a]:=by
 cases l with
 |nil=>ext h|cons a l =>
  cases l with
  |nil=>show⟨a,rfl⟩|cons b l=>ext h
def AT{c:Type}{l:List c}(h:l.length=2):∃a b,l=[a,b]:=by
 cases l with
 |nil=>ext h|cons a l =>let⟨b,rfl⟩:=vS (show l.length=1 from Nat.succ.inj h);exists a,b,rfl
def aU(h:aX cd .never a=some r){P:Prop}:P:=by simp[dc]at h
theorem uI{X:Cx}{l:Hp}{d:En}{g:BoolOp}{pos:Pos}{f:Expr->IE}(i:∀e r,aX cd (f e) d=some r->aL X l d e r):∀{m:List Expr}{r:RV},aX cd (mX g (m.map f)) d=some r->aL X l d (.BoolOp g m pos) r
 |[],r,h=>aU h|[a],r,h=>IP (i a r h)|a::b::aJ,r,h=>by
  let n:= @uI X l d g pos f i (b::aJ);cases g with
  |And =>
   let⟨x,c,h⟩:=bind_some h;let c:=i a x c;let⟨t,j,h⟩:=bind_some h;let e:=kj j;cases t with
   |true=>show Md c e (n h)|false=>ext h;show Me c e
  |Or =>
   let⟨x,c,h⟩:=bind_some h;let c:=i a x c;let⟨t,j,h⟩:=bind_some h;let e:=kj j;cases t with
   |true=>ext h;show or_t c e|false=>show or_f c e (n h)
theorem uH{X:Cx}{j:Hp}{d:En}{g:BoolOp}{pos:Pos}{f:Expr->IC}(i:∀e b,hZ cd (f e) d=some b->fm X j d e b):∀{l:List Expr}{b:Bool},hZ cd (mW g (l.map f)) d=some b->nh X j d (.BoolOp g l pos) b
 |[],r,h=>by let h:hZ cd (.val .never) d=some r:=h;simp[AF,dc]at h
 |[a],r,h=>IN (i a r h)|a::b::aJ,r,h=>by
  let m:= @uH X j d g pos f i (b::aJ);cases g with
  |And =>
   let⟨x,c,h⟩:=bind_some h;let c:=i a x c;cases x with
   |true=>show DM c (m h)|false=>ext h;show DM c rfl
  |Or =>
   let⟨x,c,h⟩:=bind_some h;let c:=i a x c;cases x with
   |true=>ext h;show GV c rfl|false=>show GV c (m h)
theorem xI{X:Cx}{m:Hp}{d:En}{f:Expr->IE}(n:∀e r,aX cd (f e) d=some r->aL X m d e r):∀{c:List Expr}{b:List RV},eJ cd (y9 (c.map λe=>if aV e then .never else f e)) d=some b->qx X m d c b/\(∀a∈c,aV a=false)/\c.length=b.length/\∀(i:Nat)(a:Expr)(r:RV),c[i]? =some a->b[i]? =some r->aL X m d a r
 |[],b,h=>by
  let h:some []=some b:=by simpa [y9,ni,nG]using h
  ext h;show⟨DL,λa j=>(by ext j),rfl,λi a r e=>(by simp at e)⟩
 |e::c,b,h=>by
  let h:eJ cd (.cons (if aV e then .never else f e) (y9 (c.map λe=>if aV e then .never else f e))) d=some b:=h;let⟨x,g,h⟩:=bind_some h;let⟨v,p,h⟩:=map_some h;subst h;let⟨o,u,q,s⟩:=xI n p;cases l:aV e with
  |true=>rw[l]at g;show aU g|false =>
   rw[l]at g;show⟨qp (n e x g) l o,λa j=> ?_,by rw[NW,NW,q],λi a r e1 e2=> ?_⟩
   ·rcases NH.mp j with rfl|j
    ·show l
    ·show u a j
   ·cases i with
    |zero =>simp at e1 e2;subst e1 e2;show n _ _ g
    |succ i=>show s i a r (by simpa using e1) (by simpa using e2)
open J
def MR(j:lD cd n){ct:Ct}{Hi:Hp}(C:bj cd X ct)(h:aX cd (ai (n+1) ct (.Compare a i u pos)) g=some r) :
  ∃t,r=sc (.bl t)/\aL X Hi g (.Compare a i u pos) r/\fm X Hi g (.Compare a i u pos) t:=by
 show Oe λno=> ?_;simp only[rN]at h
 split at h
 ·rename_i E b
  split at h;show aU h
  ·rename_i d
   let d:=Oc.mpr d;let⟨x,w,h⟩:=bind_some h;let⟨y,q,h⟩:=bind_some h;let⟨t,l,h⟩:=map_some h;subst h;let o:=j.e X ct Hi g a x C w;let m:=j.e X ct Hi g b y C q;show no<|(Y_13 t rfl (Jf C.un o m d l) (Je C.un o m d l))
 ·rename_i E f b c
  split at h;show aU h
  ·rename_i d
   rw[Od,not_or]at d;let⟨d,v⟩:=d;let v:xA f =true:=by simpa using v
   let d:=Oc.mpr d;let⟨x,w,h⟩:=bind_some h;let⟨y,q,h⟩:=bind_some h;let⟨t,l,h⟩:=bind_some h;let o:=j.e X ct Hi g a x C w;let m:=j.e X ct Hi g b y C q;cases t with
   |true =>let⟨z,I,h⟩:=bind_some h;let⟨p,s,h⟩:=map_some h;subst h;obtain⟨D,A⟩:=C4 C.un o m d l (by rw[M9 rfl];exists z,j.e X ct Hi g c z C I,s);show no<|(Y_13 p rfl D A)
   |false =>ext h;obtain⟨D,A⟩:=C4 C.un o m d l (by rw[NJ ND];show⟨rfl,vD f v⟩);show no<|(Y_13 false rfl D A)
 ·show aU h
def MW(H:lD cd n){ct:Ct}{s:En}(C:bj cd X ct)(h:aX cd (kP (n+1) ct x j) s=some r):aL X u s (.Call (.Name x p) j [] pos) r:=by
 show Oe λno=> ?_;simp only[z1q]at h
 split at h;show aU h
 rename_i ho;let ho:=Oc.mpr ho
 split at h
 ·rename_i Q
  let Q:ct.S.lookup x=some .globalImplicit:=by simpa using Q
  cases N:ct.F.lookup x with
  |some f =>
   rw[N]at h;cases j with
   |nil=>show aU h|cons e j =>simp only[cL]at h;let⟨w,c,h⟩:=bind_some h;let⟨v,hv,h⟩:=map_some h;subst h;let⟨i1,O,T,R⟩:=H.es X ct u s (e::j) w C c;show no<|call_ok C ho Q N O i1 hv
  |none =>
   rw[N]at h;dsimp only at h
   split at h
   ·rename_i hb
    let g:own ct x=true:=by unfold own;rw[hb,Q];rfl
    let plain:∀{j:List Expr}{r:RV},aX cd (match ik x j.length with|some f=>IE.bf f (eX n ct j)|none=>.never) s=some r->aL X u s (.Call (.Name x p) j [] pos) r:=by
     intro j r h;cases l:ik x j.length with
     |none=>rw[l]at h;show aU h|some f =>
      rw[l]at h;let⟨w,c,h⟩:=bind_some h;let⟨i1,O,T,R⟩:=H.es X ct u s j w C c;let a3:∀a,j=[a]->aL X u s (.Call (.Name x p) j [] pos) r:=by intro a ea;subst ea;let⟨q,rfl⟩:=vS (show w.length=1 from T.symm);show bf1_ok C g l (O a 03) (R 0 a q rfl rfl) h
      let a0:∀a b,j=[a,b]->aL X u s (.Call (.Name x p) j [] pos) r:=by intro a b ea;subst ea;let⟨q,rb,rfl⟩:=AT (show w.length=2 from T.symm);show Jr C g l (O a 03) (O b 03) (R 0 a q rfl rfl) (R 1 b rb rfl rfl) h
      let M:j.length=1\/j.length=2:=by
       rcases nC l with⟨_,z,_⟩|⟨_,z,_⟩|l
       ·show .inl z
       ·show .inl z
       rcases kl l with⟨_,z,_⟩|⟨_,z,_⟩|⟨_,z,_⟩|⟨_,z,_⟩|⟨_,z,_⟩|⟨_,z,_⟩|⟨_,z,_⟩|⟨_,z,_⟩|⟨_,z,_⟩|⟨_,z,_⟩|⟨_,z,_⟩<;>simp[z]
      rcases M with M|M
      ·let⟨a,Z⟩:=vS M
       show a3 a Z
      ·let⟨a,b,Z⟩:=AT M
       show a0 a b Z
    split at h
    ·rename_i hi
     let hi:=Nh hi;subst hi
     split at h
     ·rename_i a t a6
      split at h
      ·rename_i ty a2
       split at h;show aU h
       ·rename_i E
        let E:=Oc.mpr E
        split at h
        ·rename_i U
         let⟨w,c,h⟩:=bind_some h;let⟨q,i,A⟩:=bind_some c;ext A;let⟨b,a4,h⟩:=map_some h;subst h;show no<|isin_ok C g a2 U E (H.e X ct u s a q C i) a4
        ·show aU h
      ·show aU h
     ·show aU h
    ·split at h
     ·rename_i y yp a a5
      split at h
      ·rename_i f N
       split at h;show aU h
       ·rename_i E
        simp only[Od,not_or,Bool.not_eq_true,Bool.not_eq_false']at E;let⟨w,c,h⟩:=bind_some h;let⟨q,i,A⟩:=bind_some c;ext A;show no<|nst_ok C g E.2 N E.1 (H.e X ct u s a q C i) h
      ·show no<|plain h
     ·rename_i o m ap cp
      split at h
      ·rename_i L
       simp only[M8]at L;obtain⟨⟨⟨I,D⟩,Y⟩,K⟩:=L;let I:=Nh I;let D:=Nh D;subst I D;let⟨w,c,h⟩:=bind_some h;let⟨q,i,A⟩:=bind_some c;ext A;show no<|sumv_ok C g Y K (H.e X ct u s o q C i) h
      ·split at h
       ·rename_i L
        simp only[M8]at L;obtain⟨⟨⟨I,D⟩,Y⟩,K⟩:=L;let I:=Nh I;let D:=Nh D;subst I D;let⟨w,c,h⟩:=bind_some h;let⟨q,i,A⟩:=bind_some c;ext A;show no<|lvals_ok C g Y K (H.e X ct u s o q C i) h
       ·show no<|plain h
     ·rename_i a7 gs scope lp
      split at h
      ·rename_i d a1
       show X_03 (λR0 J=>X_101 λx y p1 p2 k p3 ap cp p4 p5=>X_21 λk2 p6=>X_07 λR14 R15 K g1 g2 g3 g4=> ?_) (yR a1);subst R0 R14 R15;let⟨w,c,h⟩:=bind_some h;let⟨rl,W,A⟩:=bind_some c;let⟨q,i,h3⟩:=bind_some W;ext A;show no<|bf1_ok C g (show ik ("sorted":Str) 1=some .sorted from rfl) rfl (Ie C g1 g2 g3 g4 J K (H.e X ct u s d q C i) h3) h
      ·show no<|plain h
     ·show no<|plain h
   ·show aU h
 ·show aU h
def mthE(j:lD cd n){ct:Ct}{o:Expr}{m:Str}(C:bj cd X ct)(u:(z.endLine==y.line)=true)(h:aX cd (nz (n+1) ct o m x) g=some r):aL X i g (.Call (.Attribute o m z) x [] y) r:=by
 show Oe λno=> ?_;simp only[z2c]at h
 split at h
 ·rename_i v
  split at h
  ·rename_i a
   split at h;show aU h
   ·rename_i s
    let s:=Oc.mpr s
    split at h
    ·rename_i d
     let d:=Nh d;subst d;let⟨l,c,h⟩:=bind_some h;let⟨w,f,h⟩:=bind_some h;let⟨q,b,p⟩:=bind_some f;ext p;show no<|join_ok v u s (j.e X ct i g o l C c) (j.e X ct i g a q C b) h
    ·split at h
     ·rename_i d
      let d:=Nh d;subst d;let⟨l,c,h⟩:=bind_some h;let⟨w,f,h⟩:=bind_some h;let⟨q,b,p⟩:=bind_some f;ext p;show no<|count_ok v u s (j.e X ct i g o l C c) (j.e X ct i g a q C b) h
     ·split at h
      ·rename_i d
       let d:=Nh d;subst d;let⟨l,c,h⟩:=bind_some h;let⟨w,f,h⟩:=bind_some h;let⟨q,b,p⟩:=bind_some f;ext p;show no<|indexT_ok C.un v u s (j.e X ct i g o l C c) (j.e X ct i g a q C b) h
      ·split at h
       ·rename_i d
        let d:=Nh d;subst d;let⟨l,c,h⟩:=bind_some h;let⟨w,f,h⟩:=bind_some h;let⟨q,b,p⟩:=bind_some f;ext p;show no<|split_ok v u s (j.e X ct i g o l C c) (j.e X ct i g a q C b) h
       ·show aU h
  ·show aU h
 ·show aU h
def Le(s:lD cd n){ct:Ct}{o:Expr}{k:Bool}(C:bj cd X ct)(K:y=true->∃A z p,o=.Tuple A z p)(h:uq cd (AZ (n+1) ct y e) d=some (l,k,b)):qv X j d o e l k b/\cZ e=false:=by
 simp only[z2w]at h
 split at h;simp[KO]at h
 rename_i c;show⟨?_,Oc.mpr c⟩;let i:uq cd (.seq (ai n ct e)) d=some (l,k,b)->qv X j d o e l k b:=by intro h;let⟨r,S,h⟩:=bind_some h;show HU (s.e X ct j d e r C S) h
 let m:∀{P:Prop},uq cd .never d=some (l,k,b)->P:=by intro P h;simp[KO]at h
 split at h
 ·rename_i x v f
  obtain⟨p,pos,rfl⟩:∃p pos,e=.Call (.Name x p) v [] pos:=by
   unfold qk at f
   split at f;ext f;exists _,_,rfl;ext f
  split at h
  ·rename_i g
   let g:=Nh g;subst g
   split at h
   ·rename_i L
    let⟨N,u,h⟩:=bind_some h;let⟨U,J,h⟩:=map_some h;ext h;let⟨I,R,M,W⟩:=s.es X ct j d v N C u;show Hd C L R I M J
   ·show m h
  ·split at h
   ·show m h
   ·split at h
    ·rename_i g
     let g:=Nh g;subst g
     split at h
     ·rename_i a
      split at h;show m h
      ·rename_i f
       simp only[Od,not_or,Bool.not_eq_true,Bool.not_eq_true']at f;obtain⟨⟨Q,O⟩,H⟩:=f;let⟨A,z,D,rfl⟩:=K (by simpa using O);let⟨T,q,h⟩:=bind_some h;let⟨w,E,h⟩:=map_some h;ext h;show FZ C (by simpa using H) Q (s.e X ct j d _ T C q) E
     ·show m h
    ·show i h
 ·show i h
def lcE(p:lD cd n){ct:Ct}{Hi:Hp}{scope:Scope}(C:bj cd X ct)(h:aX cd (ai (n+1) ct (.ListComp g S scope pos)) E=some r) :
  ∃L a d N' x,S=[⟨L,a,d,0⟩]/\bn X scope N' x/\scope.kind=.function/\(∀y∈scope.names,y.2=.cell->scope.names.lookup y.1=some .cell)/\(∀y∈scope.names,y.2=.local->scope.names.lookup y.1=some .local)/\fB X.env.scope scope=true/\cZ a=false /\ ∀(O:List Addr)(j:L2.St)(H:Hp)(Q:VK),aY X.K Hi O E j H->(∀u H',aD H H' ->ag X.K Hi O H H' r u->Q u H')->HJ X N' x scope L d g (λσ H R=>WI X L a j H R) j H Q:=by
 show Oe λno=> ?_;simp only[rH]at h
 split at h
 ·rename_i t v a d
  split at h
  ·rename_i i
   cases m:slots ct.N (frees scope)with
   |none=>rw[m]at h;show aU h|some A =>
    rw[m]at h;let⟨w,J,h⟩:=bind_some h;obtain⟨U,W,b⟩:=w;dsimp only at h
    split at h
    ·rename_i T
     let⟨M,l,h⟩:=map_some h;obtain⟨VS,NN⟩:=M;subst h;let⟨o,f⟩:=p.t X ct Hi E false a (.Name t v) U W b C (λz=>by ext z) J;let⟨g1,Y,g3,g4,g5,g6,g7⟩:=mL i;let⟨Z,I,q3⟩:=Ez (ifs:=d) C i m f o T (λX' τ' k C' hk=>by
      split at hk
      ·simp only[Gs]at hk
       ext hk;exists _,gH,λO j H Q R q=>q H (aD.refl _)
      ·rename_i c
       exists _,sj nN,λO j H Q R q=>p.c X' _ Hi τ' _ k C' hk O j H Q R q
      ·simp[Gr,AF,dc]at hk) (λX' τ' r' C' hr' =>p.e X' _ Hi τ' g r' C' hr') l
     show no<|⟨.Name t v,a,d,_,_,rfl,Z,g1,Y,g3,I,f,q3⟩
    ·ext h
  ·show aU h
 ·cases e2:wV S with
  |none=>rw[e2]at h;show aU h|some w =>
   obtain⟨t,t2,a,d⟩:=w;rw[e2]at h;let⟨v,s,kk,D,rfl⟩:=yO e2;dsimp only at h
   split at h
   ·rename_i i
    cases m:slots ct.N (frees scope)with
    |none=>rw[m]at h;show aU h|some A =>
     rw[m]at h;obtain⟨⟨U,W,b⟩,J,h⟩:=bind_some h;dsimp only at h
     split at h
     ·rename_i T
      obtain⟨⟨VS,NN⟩,l,h⟩:=map_some h;subst h;let⟨o,f⟩:=p.t X ct Hi E true a (.Tuple [.Name t v,.Name t2 s] kk D) U W b C (λ_=>(Y_31 _ _ _ rfl)) J;let⟨g1,Y,g3,g4,g5,g6,g8,g7⟩:=hJ i;let⟨Z,I,q3⟩:=CB (ifs:=d) C i m f o T (λX' τ' k C' hk=>by
       split at hk
       ·simp only[Gs]at hk
        ext hk;exists _,gH,λO j H Q R q=>q H (aD.refl _)
       ·rename_i c
        exists _,sj nN,λO j H Q R q=>p.c X' _ Hi τ' _ k C' hk O j H Q R q
       ·simp[Gr,AF,dc]at hk) (λX' τ' r' C' hr' =>p.e X' _ Hi τ' g r' C' hr') l
      show no<|⟨.Tuple [.Name t v,.Name t2 s] kk D,a,d,_,_,rfl,Z,g1,Y,g3,I,f,q3⟩
     ·ext h
   ·show aU h
def expE(g:lD cd n){ct:Ct}(C:bj cd X ct)(h:aX cd (ai (n+1) ct e) j=some r):aL X d j e r:=by
 cases e with
 |Constant c k pos=>show Cu h|Name x pos=>simp only[rG]at h;show qD C h|BinOp a J b pos =>simp only[rQ,dP]at h;let⟨x,s,h⟩:=bind_some h;let⟨y,M,h⟩:=bind_some h;show DD (g.e X ct d j a x C s) (g.e X ct d j b y C M) h
 |UnaryOp J a pos =>
  simp only[rD]at h;cases J with
  |USub =>let⟨x,s,h⟩:=bind_some h;let⟨i,z,h⟩:=map_some h;subst h;show IY (g.e X ct d j a x C s) (CP z)
  |Not =>let⟨x,s,h⟩:=bind_some h;let⟨i,z,h⟩:=map_some h;subst h;show IV (g.e X ct d j a x C s) (kj z)
  |_=>show aU h
 |Compare a a1 cs pos =>obtain⟨t,_,T,_⟩:=MR g C h;show T
 |BoolOp J N pos =>
  simp only[rP]at h
  split at h;show aU h;show uI (λe r h=>g.e X ct d j e r C h) h
 |IfExp c a b pos =>
  let⟨t,ht,h⟩:=bind_some h;show Io (g.c X ct d j c t C ht) ?_;cases t with
  |true=>show g.e X ct d j a r C h|false=>show g.e X ct d j b r C h
 |List E pos =>let⟨W,D,h⟩:=bind_some h;let⟨w,A,h⟩:=bind_some h;obtain⟨N,U⟩:=w;show IZ (g.es X ct d j E W C D).1 A h
 |Tuple E k pos =>let⟨W,D,h⟩:=bind_some h;let⟨w,A,h⟩:=bind_some h;obtain⟨N,U⟩:=w;show AU (g.es X ct d j E W C D).1 A h
 |Dict L N pos =>
  simp only[rL]at h
  split at h
  ·simp only[de]at h
   ext h;show Fb
  ·rename_i c _ _ v
   split at h
   ·simp only[dM]at h
    let⟨x,s,h⟩:=bind_some h;let⟨w,A,h⟩:=bind_some h;obtain⟨v',U⟩:=w;dsimp only at h
    split at h
    ·rename_i z
     ext h;show xi aa (λ_ _ _ q=>q) (g.e X ct d j v x C s) A z
    ·ext h
   ·simp only[dM]at h
    let⟨x,s,h⟩:=bind_some h;obtain⟨⟨v',U⟩,A,h⟩:=bind_some h;dsimp only at h
    split at h
    ·rename_i z
     ext h;show xi gI (λ_ _ _ q=>q) (g.e X ct d j v x C s) A z
    ·ext h
   ·show aU h
  ·show aU h
 |Subscript a i pos =>
  simp only[rF]at h
  split at h
  ·rename_i lo z st sp
   cases st with
   |none =>let⟨x,s,h⟩:=bind_some h;let⟨l,I,h⟩:=bind_some h;let⟨u,hu,h⟩:=bind_some h;let⟨l',Y,h⟩:=bind_some h;let⟨u',S,h⟩:=bind_some h;show Av (g.e X ct d j a x C s) (g.o X ct d j lo l l' C I Y) (g.o X ct d j z u u' C hu S) h
   |some st =>
    dsimp only at h
    split at h
    ·simp only[dB]at h
     let⟨x,s,h⟩:=bind_some h;show ED (g.e X ct d j a x C s) h
    ·show aU h
  ·rename_i K
   let⟨x,s,h⟩:=bind_some h;let⟨y,M,h⟩:=bind_some h;show CS C.un ?_ (g.e X ct d j a x C s) (g.e X ct d j i y C M) h;ext i<;>first|rfl|(exfalso;show K _ _ _ _ rfl)
 |Call f E L cp =>
  simp only[rO]at h;cases L with
  |nil =>
   cases f with
   |Name x p=>show g.call X ct d j x E p cp r C h|Attribute o m ap =>
    dsimp only at h
    split at h
    ·rename_i I
     show g.mth X ct d j o m E ap cp r C I h
    ·show aU h
   |_=>show aU h
  |cons k L=>show aU h
 |ListComp a2 gs scope pos =>obtain⟨tg,Z,a3,N',a0,rfl,T,h2,h3,h4,h5,h6,h7⟩:=lcE g C h;intro O σ H Q R q;show we (wy C.calm Hu T h2 h3 h4 h5 (p8 h6)) (h7 O σ H Q R q)
 |_=>(try simp only[rR,rM,rG,rQ,rD,rN,rP,rK,rJ,rE,rL,rF,rO,rH]at h);show aU h
open H
def tstE(j:lD cd n){ct:Ct}(C:bj cd X ct)(h:hZ cd (n6 (n+1) ct e) f=some b):fm X g f e b:=by
 let plain:∀{e:Expr},hZ cd (.val (ai n ct e)) f=some b->(∀d,isTrue e X.env d=(do let v<-d;standAt e.pos;holding [v] (truthy v)))->fm X g f e b:=by intro e h r;let⟨x,m,h⟩:=bind_some h;show Gz (j.e X ct g f e x C m) h r
 cases e with
 |UnaryOp o a p =>
  simp only[KY]at h;cases o with
  |Not =>let⟨t,l,h⟩:=map_some h;subst h;show IU (j.c X ct g f a t C l)
  |_=>show plain h λ_=>rfl
 |BoolOp o s p =>show(uH (λe b h=>j.c X ct g f e b C h) h).tc
 |IfExp c a u p =>simp[KZ,AF,dc]at h
 |Compare a i q pos =>let h:hZ cd (.val (ai n ct (.Compare a i q pos))) f=some _:=h;let⟨x,m,h⟩:=bind_some h;let⟨t,rfl,l⟩:=j.cm X ct g f a i q pos x C m;ext h;show l
 |_=>(try simp only[Kb,KY,Ka,KZ]at h);show plain h λ_=>rfl
open J in
theorem eN:∀n:Nat,lD cd n
 |0=>by
  show⟨λX ct Hi τ e r C h=> ?_,λX ct Hi τ a ops cs pos r C h=> ?_,λX ct Hi τ es rs C h=> ?_,λX ct Hi τ e o i C h=> ?_,λX ct Hi τ e b C h=> ?_,λX ct Hi τ x es p pos r C h=> ?_,λX ct Hi τ o m es ap cp r C hl h=> ?_,λX ct Hi τ tp e tg xs k b C ht h=> ?_⟩
  ·simp[rR,dc]at h
  ·simp[rR,dc]at h
  ·simp[z29,ni,nG,dc]at h
  ·simp[z2d,z0x,dc]at h
  ·simp[Kb,AF,dc]at h
  ·simp[z1p,dc]at h
  ·simp[z2b,dc]at h
  ·simp[z2v,KO]at h
 |n+1=>by
  let c:=eN n;show⟨λX ct Hi τ e r C h=>expE c C h,λX ct Hi τ a ops cs pos r C h=> ?_,λX ct Hi τ es rs C h=> ?_,λX ct Hi τ e o i C h hi=> ?_,λX ct Hi τ e b C h=>tstE c C h,λX ct Hi τ x es p pos r C h=>MW c C h,λX ct Hi τ o m es ap cp r C hl h=>mthE c C hl h,λX ct Hi τ tp e tg xs k b C ht h=>Le c C ht h⟩
  ·obtain⟨t,d,_,l⟩:=MR c C h
   exists t,d,l
  ·simp only[z2a]at h
   show xI (λe r h=>c.e X ct Hi τ e r C h) h
  ·cases e with
   |none =>ext h;ext hi;show True.intro
   |some e =>
    let⟨r,f,h⟩:=map_some h;subst h;simp only[tw]at hi
    split at hi
    ·rename_i j g
     ext hi;exists r,c.e X ct Hi τ e r C f,g
    ·ext hi
end
end IR
namespace L2
open PySem PySem.Spec PyProof.Rows
section
variable{X:Cx}{pins:List (Addr×Obj)}{σ:St}{H:Hp}{s:Shared}
open H
def BK{scope:Scope}(hc:X.calm=true)(hi:PI X d f U)(E:bn X scope Y D)
  (z:scope.kind=.function) (u:∀y∈scope.names,y.2=.cell->scope.names.lookup y.1=some .cell) (q:∀y∈scope.names,y.2=.local->scope.names.lookup y.1=some .local)
  (T:fB X.env.scope scope=true)
  (Z:∀x,foldedSetIterable f X.env x=pure x) (hN:X.N.Nodup) (J:X.N[W]? =some j) (M:Loc X.env.scope j) (hf:X.fn j=true\/X.env.scope.names.lookup j=some .local)
  (K:swapsWith (.ListComp l [⟨d,f,n,0⟩] scope pos) (some (.Name j g)) i.line X.env=pure true) :
  PS X (.Assign [.Name j g] (.ListComp l [⟨d,f,n,0⟩] scope pos) i) (HQ (HJ X Y D scope d n l U) (mU W)):=by
 intro r s σ H D0 I h;rw[exec_Assign_Name_used j g _ i K];show M1 (Qb (M1 ?_));show M1 (ar ?_ λ_ s9 h9=>NK (NK h9));show xL hc hi E z u q T Z I h λC a' s2 s4 H2 H3 fp cl m I2 f2 below hCle I4 hn qn _=> ?_;let IX:=I2.call' I4.os I4.base I4.hok I4.bare λb hb=>⟨(f2 b hb).2.2.2.1,(f2 b hb).2.1,(f2 b hb).2.2.2.2.1,(f2 b hb).2.2.2.2.2⟩;show wpAny_assign_Name (oG IX hN J M (v:=.ref a') rfl (λs5 I5 ⟨a,sb,O⟩=> ?_) hf);let R:C≠a:=by
  rcases O with rfl|O
  ·show(below _ I2.lt).symm
  ·let⟨v,L⟩:=I2.cell _ _ O
   show(below _ L.lt).symm
 exists m,?_,λh' hs' => ?_
 ·let⟨ob,es,ep,ho,rr⟩:=hn
  exists ob,es,ep,(sb.2 _ R).trans ho,rr
 ·exists _,H3,I5.turned (λb o ne e=>(hs'.2 b ne).trans e) I4.free (below _ I2.lt).symm (.inr (Nd I2.sz hCle)) (λx c e=> ?_) (λp hp=> ?_),qn
  ·let⟨v,L⟩:=I2.cell x c e
   show below _ L.lt
  ·show below _ (NQ (I2.pin p hp).1)
end
end L2
namespace IR
open PySem PySem.Spec PyProof.Rows L2
section
variable{X:Cx}{Hi:Hp}{τ:En}{cd:Nat->List PV->Option PV}{ct:Ct}
abbrev WS(X:Cx)(c:Stmt)(D:dX)(b:L2.St)(H:Hp):Prop:=∀(a:List (Addr×Obj))(s:Shared),Inv X a b H s->wpAny (model X.prog X.w) X.A (exec c X.env) (SP X a D) X.xe s
abbrev WSs(X:Cx)(c:List Stmt)(D:dX)(b:L2.St)(H:Hp):Prop:=∀(a:List (Addr×Obj))(s:Shared),Inv X a b H s->wpAny (model X.prog X.w) X.A (execs c X.env) (SP X a D) X.xe s
theorem ps_w:PS X a (λD σ H=>WS X a D σ H):=λpins s σ H D I h=>h pins s I
theorem jc:rA X a (λD σ H=>WSs X a D σ H):=λpins s σ H D I h=>h pins s I
theorem ws{t:TS}(h:PS X b t)(q:t D a H):WS X b D a H:=λpins s I=>h pins s a H D I q
theorem wss{t:TS}(h:rA X b t)(q:t D a H):WSs X b D a H:=λpins s I=>h pins s a H D I q
variable(X Hi)in
def wL(O:List Addr)(H:Hp)(c :En)(P:L2.St->Hp->Prop):Prop:=∀(a :L2.St)(b :Hp)(d :List Addr),aY X.K Hi d c a b ->a.length=X.N.length->aD (aW H O) (aW b d)->P a b
variable(X Hi)in
def DT(c:Fl)(O:List Addr)(H:Hp)(D:dX):Prop:=match c with
 | .nx a =>wL X Hi O H a D.nx| .bk a =>wL X Hi O H a D.bk| .ct a =>wL X Hi O H a D.ct| .rt v=>∀u b,aD Hi b ->Rp X.K Hi true v b u->D.rt u b
variable(X Hi τ)in
def lK(b:Stmt)(c:Fl):Prop:=∀(O:List Addr)(a:L2.St)(H:Hp)(D:dX),aY X.K Hi O τ a H->a.length=X.N.length->DT X Hi c O H D->WS X b D a H
variable(X Hi τ)in
def zq(b:List Stmt)(c:Fl):Prop:=∀(O:List Addr)(a:L2.St)(H:Hp)(D:dX),aY X.K Hi O τ a H->a.length=X.N.length->DT X Hi c O H D->WSs X b D a H
theorem wL.from{P:L2.St->Hp->Prop}(h:wL X Hi O H a P)(s:aD (aW H O) (aW c b)):wL X Hi b c a P:=λσ2 H2 O2 R hl s2=>h σ2 H2 O2 R hl (s.trans s2)
open H
def DT.from(h:DT X Hi b O H D)(s:aD (aW H O) (aW d c)):DT X Hi b c d D:=by
 cases b with
 |nx a =>show wL.from (show wL X Hi O H a D.nx from h) s|bk a =>show wL.from (show wL X Hi O H a D.bk from h) s|ct a =>show wL.from (show wL X Hi O H a D.ct from h) s|rt v=>show h
open J in
def iS(C:bj cd X ct)(h:loc ct x=some i):X.N[i]? =some x/\L2.Loc X.env.scope x/\xE x=false/\Gy ct.S x=true:=by
 unfold loc at h
 split at h
 ·rename_i c
  rw[M8]at c;show⟨by rw[C.N];show gp h,?_,by simpa using c.2,?_⟩
  ·unfold L2.Loc
   rw[C.S]
   simpa using c.1
  ·unfold Gy
   have:=c.1;simp only[Od]at this ⊢;show .inl this
 ·ext h
def kZ{cap:List Nat}(R:aY X.K Hi O τ b H):∃a,aY X.K Hi a (bN cap τ) b H/\aD (aW H O) (aW H a):=by obtain⟨a,c,h⟩:=R.freezes;exists a,c,xT h
open J in
def Hl{o:Bool}(R:aY X.K Hi O τ j H)(s:aD H a)(x:i<j.length)(z:ag X.K Hi O H a r u)(h:pf o i r τ=some d) :
  ∃A,aY X.K Hi A d (j.set i (some u)) a /\aD (aW H O) (aW a A):=by
 unfold pf at h
 split at h
 ·rename_i D n
  ext h;let⟨p,us,rfl,f,q,m⟩:=z;let g:aD (aW (del a p) O) (aW a (p::O)):=λb o e=>by
   unfold aW del at e;unfold aW
   split at e;ext e
   ·rename_i c
    split at e;ext e
    ·rename_i l
     rwa[NJ (by simp[l,c])]
  exists p::O,R.setO x s f q (m.mono g),λb o e=> ?_;unfold aW at e ⊢
  split at e;ext e
  ·rename_i c
   let y:=aE e f;rw[NJ (by simp[y,c])];show s b o e
 ·rename_i b D n
  ext h;let⟨p,us,o,rfl,f,q,E,m⟩:=z;let g:aD (aW (del a p) O) (aW a (p::O)):=λb o e=>by
   unfold aW del at e;unfold aW
   split at e;ext e
   ·rename_i c
    split at e;ext e
    ·rename_i l
     rwa[NJ (by simp[l,c])]
  exists p::O,R.setB rfl x s f q E (m.mono g),λb o e=> ?_;unfold aW at e ⊢
  split at e;ext e
  ·rename_i c
   rw[NJ (by simp[aE e f,c])];show s b o e
 ·let⟨w,C,h⟩:=map_some h
  obtain⟨v,n⟩:=w;subst h;exists O,(R.ext s).setF x (z.keep R s C),aO s
def IW(h:isComp e=false\/a.kindOf x≠some .local):swapsWith e (some (.Name x p)) l a=pure false:=by
 rcases h with h|h
 ·ext e<;>first|rfl|ext h
 ·let b:(a.kindOf x==some NameKind.local)=false:=by simpa using h
  ext e<;>first|rfl|(change(pure (_&&(a.kindOf x==some NameKind.local)&&_&&_):Sem Bool)=pure false;rw[b,Bool.and_false,QP,QP])
def Ju(C:bj cd X ct)(h:X.fn=λ_=>true){o:Bool}{m:En}(hx:loc ct x=some i)(p:aX cd (ai n ct e) (bN f τ)=some r)(Z:pf o i r (bN f τ)=some m) :
  lK X Hi τ (.Assign [.Name x T] e pos) (.nx m):=by
 intro O j H D R M q;let⟨v,L,h3,h4⟩:=iS C hx;obtain⟨y,w,s1⟩:=kZ R;let U:=(eN n).e X ct Hi (bN f τ) e r C p;let hi:i<j.length:=by rw[M];show(NC.mp v).1
 let E:X.N.Nodup:=by rw[C.N];show C.nd
 let g:∀u z,aD H z ->ag X.K Hi y H z r u->D.nx (j.set i (some u)) z :=λu z s ok=>by let⟨O2,R2,s2⟩:=Hl w s hi ok Z;show q _ _ O2 R2 (by rwa[OU]) (s1.trans s2)
 by_cases A:isComp e=false\/X.env.kindOf x≠some .local
 ·show ws (au E v L aT (IW A) (.inl (by rw[h]))) ?_
  show U y j H _ w g
 ·rw[not_or]at A
  let⟨c1,Q⟩:=A;cases e with
  |ListComp I gs scope lp =>
   cases n with
   |zero=>simp[rR,dc]at p|succ n =>
    obtain⟨W,l,J,N',a0,rfl,g1,g2,g3,g4,Y,g6,g7⟩:=lcE (eN n) C p;obtain⟨b,S⟩:∃b,swapsWith (.ListComp I [⟨W,l,J,0⟩] scope lp) (some (.Name x T)) pos.line X.env=pure b:=⟨_,rfl⟩;cases b with
    |true=>show ws (BK C.calm Hu g1 g2 g3 g4 Y (p8 g6) E v L (.inl (by rw[h])) S) (g7 y j H _ w g)|false=>show ws (au E v L aT S (.inl (by rw[h]))) (U y j H _ w g)
  |SetComp a b c d=>show aU (by ext n<;>show p)|DictComp a b c d e=>show aU (by ext n<;>show p)|_=>show absurd rfl c1
def He(C:bj cd X ct)(f:aX cd (ai n ct e) (bN a τ)=some r)(d:r.keep=some (v,true)):lK X Hi τ (.Return (some e) pos) (.rt v):=by intro O c H D R h q;obtain⟨g,b,i⟩:=kZ R;show ws (bo aT) ?_;show(eN n).e X ct Hi _ e r C f g c H _ b λu H' s ok=>q u H' (R.same.trans s) ((ok.keep b s d).mono ah)
def EE:lK X Hi τ (.Return none pos) (.rt .non):=by intro O a H D R b q;show ws EQ (q _ _ R.same (Rp.non.mpr rfl))
def Ix{t:Bool}(g:fm X Hi τ c t)(h:zq X Hi τ (if t=true then a else b) d):lK X Hi τ (.If c a b pos) d:=by
 intro O e H D R f q;show ws (jd nN jc jc) ?_;show g O e H _ R λH1 s1=> ?_;cases t with
 |true=>show kY ((show zq X Hi τ a d from h) O e H1 _ (R.ext s1) f (q.from (aO s1)))|false=>show lG ((show zq X Hi τ b d from h) O e H1 _ (R.ext s1) f (q.from (aO s1)))
theorem xJ(C:bj cd X ct)(o:X.fn=λ_=>true):∀{d:List Expr}{l:List Nat},locs ct d=some l->∃t,Mm X d t/\(assignEach d X.env).length=l.length/\(assignEach d X.env).findIdx? (·.1)=none /\ ∀(O:List Addr)(s c :En)(f:L2.St)(H:Hp)(n:Bool)(g:List PV)(us:List V)(Q:L2.St->Hp->Prop),aY X.K Hi O s f H->f.length=X.N.length->aG X.K Hi n g (aW H O) us->eP n l g s=some c -> (∀j,aY X.K Hi O c j H->j.length=X.N.length->Q j H)->t us f H Q
 |[],l,h=>by
  ext h;exists _,jg,rfl,rfl,λO s c f H n g us Q R hl r e q=> ?_;cases g with
  |nil =>obtain rfl:=r;ext e;show⟨rfl,q f R hl⟩
  |cons x g=>ext e
 | .Name x p::d,l,h=>by
  let h:(loc ct x).bind (λi=>(locs ct d).map (i::·))=some l:=h;let⟨i,I,h⟩:=bind_some h;let⟨T,E,h⟩:=map_some h;subst h;let⟨z,L,S,M⟩:=iS C I;let⟨t,A,m,J,k⟩:=xJ C o E;exists _,cB (ak (by rw[C.N];show C.nd) z L (.inl (by rw[o]))) A rfl,?_,?_,λO s c f H n g us Q R hl r e q=> ?_
  ·change(assignEach d X.env).length+1=_
   rw[m];rfl
  ·change List.findIdx? (·.1) ((false,assign (.Name x p) X.env)::assignEach d X.env)=none
   rw[List.findIdx?_cons,J];rfl
  ·cases g with
   |nil=>ext e|cons y D =>
    let⟨u,w,rfl,a,b⟩:=r;let v :i<f.length:=by rw[hl];show(NC.mp z).1
    exists u,w,rfl,k O _ c _ H n D w Q (R.setF v a.up) (by rwa[OU]) b e q
 | .BoolOp .. ::_,_,h=>by ext h| .NamedExpr .. ::_,_,h=>by ext h| .BinOp .. ::_,_,h=>by ext h| .UnaryOp .. ::_,_,h=>by ext h| .Lambda .. ::_,_,h=>by ext h| .IfExp .. ::_,_,h=>by ext h| .Dict .. ::_,_,h=>by ext h| .Set .. ::_,_,h=>by ext h| .ListComp .. ::_,_,h=>by ext h| .SetComp .. ::_,_,h=>by ext h| .DictComp .. ::_,_,h=>by ext h| .GeneratorExp .. ::_,_,h=>by ext h| .Await .. ::_,_,h=>by ext h| .Yield .. ::_,_,h=>by ext h| .YieldFrom .. ::_,_,h=>by ext h| .Compare .. ::_,_,h=>by ext h| .Call .. ::_,_,h=>by ext h| .FormattedValue .. ::_,_,h=>by ext h| .JoinedStr .. ::_,_,h=>by ext h| .Constant .. ::_,_,h=>by ext h| .Attribute .. ::_,_,h=>by ext h| .Subscript .. ::_,_,h=>by ext h| .Starred .. ::_,_,h=>by ext h| .List .. ::_,_,h=>by ext h| .Tuple .. ::_,_,h=>by ext h| .Slice .. ::_,_,h=>by ext h
def Ke(C:bj cd X ct)(hfn:X.fn=λ_=>true)(h:AY ct tg=some (is,one)):(one=false->∃ts k p,tg=.Tuple ts k p)/\∃g,PG X tg g /\ ∀(O:List Addr)(τ τ' :En)(σ:L2.St)(H:Hp)(n:Bool)(x:PV)(u:V)(Q:L2.St->Hp->Prop),aY X.K Hi O τ σ H->σ.length=X.N.length->Rp X.K Hi n x (aW H O) u->pW is one n x τ=some τ' -> (∀σ',aY X.K Hi O τ' σ' H->σ'.length=X.N.length->Q σ' H)->g u σ H Q:=by
 cases tg with
 |Name x p =>
  let⟨i,hi,h⟩:=map_some (show(loc ct x).map (λi=>([i],true))=some (is,one)from h);ext h;let⟨h1,h2,h3,h4⟩:=iS C hi;show⟨λz=>(by ext z),Y_12 _ (ak (by rw[C.N];show C.nd) h1 h2 (.inl (by rw[hfn]))) (λO τ τ' σ H n x u Q R hl r e q=> ?_)⟩;ext e;let hi' :i<σ.length:=by rw[hl];show(NC.mp h1).1
  show q _ (R.setF hi' r.up) (by rwa[OU])
 |Tuple es k p =>
  let⟨js,hj,h⟩:=map_some (show(locs ct es).map (λis=>(is,false))=some (is,one)from h);ext h;obtain⟨t,pt,hlen,hf,kk⟩:=xJ C hfn hj;show⟨λ_=>⟨_,_,_,rfl⟩,Y_12 _ (mE C.calm pt hlen hf) (λO τ τ' σ H n x u Q R hl r e q=> ?_)⟩;cases x with
  |tup xs =>
   let⟨a,us,rfl,l,r2⟩:=Rp.tup.mp r;let hz:∀{is:List Nat}{xs:List PV}{τ τ' :En},eP n is xs τ=some τ' ->xs.length=is.length:=by
    intro is
    induction is with
    |nil=>intro xs τ τ' e;cases xs with
     |nil=>rfl|cons _ _=>ext e
    |cons i is ih=>intro xs τ τ' e;cases xs with
     |nil=>ext e|cons x xs=>rw[NW,NW,ih (show eP n is xs _=some τ' from e)]
   exists a,us,rfl,(ah).tup l,by rw[<- r2.len];show hz e,kk O τ τ' σ H n xs us Q R hl r2 e q
  |_=>ext e
 |_=>ext h
def JJ(C:bj cd X ct)(Z:X.fn=λ_=>true){body:List Stmt}{k:Bool}(ht:AY ct Q=some (M,c))
  (hi:uq cd (AZ n ct (!c) it) (bN l A)=some (b,k,false)) (hb:∀A p,L A=some p->zq X Hi A body p) (h:mV (pW M c k) L b (bN l A)=some p):lK X Hi A (.For Q it body [] pos) p:=by
 intro O σ H D R hl q;obtain⟨w,R1,s1⟩:=kZ R;obtain⟨W,g,pg,kg⟩:=Ke C Z ht;let⟨S,J⟩:=(eN n).t X ct Hi (bN l A) (!c) it Q b k false C (λz=>W (by simpa using z)) hi;show ws (cO C.xe C.calm Hu pg jc (p8 J)) ?_;show S w σ H _ R1 λJ H1 sJ En=> ?_;let s2:=s1.trans (aO sJ);exists λi m o G=>m=b.length-i/\i<=b.length/\∃(P:List Addr)(r:IR.En),aY X.K Hi P r o G/\o.length=X.N.length/\aD (aW H1 w) (aW G P)/\mV (pW M c k) L (b.drop i) r=some p,Y_13 b.length 03 (No _) (Y_24 w _ (R1.ext sJ) hl (aD.refl _) h),?_;intro i m o G zm;obtain⟨rfl,a0,P,r,U,E,Y,a⟩:=zm;let s:Gk (aW H1 w) G P:=⟨U.lsts,Y⟩
 by_cases d:i<b.length
 ·show .inr ⟨En.go G P i s d,λσ2 G2=>∃m',m' <b.length-i/\(m' =b.length-(i+1)/\i+1<=b.length/\∃(P:List Addr)(r:IR.En),aY X.K Hi P r σ2 G2/\σ2.length=X.N.length/\aD (aW H1 w) (aW G2 P)/\mV (pW M c k) L (b.drop (i+1)) r=some p),λσ2 G2 h=>h,λu G' y=> ?_⟩
  obtain⟨sG,x,hx,rx⟩:=En.yld G P i u G' s d y;let hd:b.drop i=x::b.drop (i+1):=by rw[Os d];rw[M5 d]at hx;rw[Nf hx]
  rw[hd]at a;let⟨I,h1,a⟩:=bind_some a;let⟨f,hf,a⟩:=bind_some a;show kg P r I o G' k x u _ (U.ext sG) E rx h1 λσ1 R2 hl1=> ?_;let T:=Y.trans (aO sG);show hb I f hf P σ1 G' _ R2 hl1 ?_;cases f with
  |nx j=>show λσ3 G3 P3 R3 hl3 s4=>(Y_14 _ 00 rfl d (Y_24 P3 j R3 hl3 (T.trans s4) a))|ct j=>show λσ3 G3 P3 R3 hl3 s4=>(Y_14 _ 00 rfl d (Y_24 P3 j R3 hl3 (T.trans s4) a))|bk j =>let a:=a;ext a;show λσ3 G3 P3 R3 hl3 s4=>q σ3 G3 P3 R3 hl3 (s2.trans (T.trans s4))
  |rt v =>ext a;show q
 ·let e:i=b.length:=by lia
  subst e;rw[List.drop_length]at a;ext a;show .inl ⟨En.stop G P s,q o G P U E (s2.trans Y)⟩
def AK(C:bj cd X ct){body:List Stmt}{o:En->Option Fl}(z:∀j b,n j=some b->fm X Hi j c b)(A:∀j g,o j=some g->zq X Hi j body g)(h:Da n o w j=some g) :
  lK X Hi j (.While c body [] pos) g:=by
 intro O I H D R y q;show ws (sd C.xe nN jc) ?_;exists λm d G=>∃(P:List Addr)(i:IR.En),aY X.K Hi P i d G/\d.length=X.N.length/\aD (aW H O) (aW G P)/\Da n o m i=some g,Y_34 w O j R y (aD.refl _) h,?_;intro m d G zm;let⟨P,i,r,l,x,a⟩:=zm;cases m with
 |zero=>ext a|succ m =>
  let⟨b,s,a⟩:=bind_some a;show z i b s P d G _ r λG1 s1=> ?_;cases b with
  |false =>ext a;show q d G1 P (r.ext s1) l (x.trans (aO s1))
  |true =>
   let⟨f,E,a⟩:=bind_some a;exists λσ2 G2=>∃u,u <m+1/\∃(P:List Addr)(i:IR.En),aY X.K Hi P i σ2 G2/\σ2.length=X.N.length/\aD (aW H O) (aW G2 P)/\Da n o u i=some g,λσ2 G2 h=>h,?_;let p:=x.trans (aO s1);show A i f E P d G1 _ (r.ext s1) l ?_;cases f with
   |nx e=>show λσ3 G3 P3 R3 hl3 s4=>(Y_12 m 00 (Y_24 P3 e R3 hl3 (p.trans s4) a))|ct e=>show λσ3 G3 P3 R3 hl3 s4=>(Y_12 m 00 (Y_24 P3 e R3 hl3 (p.trans s4) a))|bk e =>let a:=a;ext a;show λσ3 G3 P3 R3 hl3 s4=>q σ3 G3 P3 R3 hl3 (p.trans s4)
   |rt v =>ext a;show q
open J in
def wT{m:Bool}{us:List V}{P:L2.St->Hp->Prop}(R:aY X.K Hi O τ a H)(p:a.length=X.N.length)(e:τ[i]? =some (.own h n))(g:a[i]? =some (some (.ref l)))(r:aG X.K Hi m f (aW H O) us)
  (q:wL X Hi O H (τ.set i (.own f m)) P):P a (L2.upd H l (.lst us)):=by
 show q a _ O (R.upd e g r) p λb o z=> ?_;let⟨x,w,j,s,_⟩:=R.owns i h n e;rw[g]at j;ext j;unfold aW at z ⊢
 split at z;ext z
 ·rename_i d
  let u:b≠l:=λc=>d (c▸s);rwa[NJ d,aA u]
def Jv(C:bj cd X ct){m:Str}{k:Bool}(N:loc ct x=some i)(Z:m="append")(c:(w.endLine==p.line)=true)(h:aV a=false)
  (hr:aX cd (ai n ct a) (bN b τ)=some r) (K:r.keep=some (v,k)) (o:(bN b τ)[i]? =some (.own f j)) (L:f.length<LN) :
  lK X Hi τ (.Expr (.Call (.Attribute (.Name x M) m w) [a] [] p) pos) (.nx ((bN b τ).set i (.own (f++[v]) (j&&k)))):=by
 intro O E H D R I q;subst Z;let⟨Q,h2,Y,W⟩:=iS C N;obtain⟨O1,g,T⟩:=kZ R;let⟨J,o2,o3⟩:=cQ Y;show ws (gr (gJ OQ QU QT gv (mF Q (pJ C.S W) J o2) (aC aT aH (aN h)) rfl (by rw[aN h];rfl) c (aN h) rfl) rfl) ?_;let⟨l,us,y,g2,z,A⟩:=g.owns i f j o;exists _,y,.inl ⟨rfl,us,bG.of z⟩,?_;show(eN n).e X ct Hi _ a r C hr O1 E H _ g λu H' s ok=> ?_;exists l,us,u,rfl,rfl,s _ _ z,by rwa[eZ,<-A.len],?_;show wT (g.ext s) I o y (LZ (A.mono (aO s)) (.cons (ok.keep g s K) .nil)) (wL.from q (T.trans (aO s)))
def Dx(C:bj cd X ct){k:Expr}{rk:RV}{m:Bool}(hx:loc ct x=some i)(hns:fQ k=false)(hnc:isComp e=false)
  (hr:aX cd (ai n ct e) (bN cap τ)=some r) (hk:r.keep=some (v,m)) (hrk:aX cd (ai n ct k) (bN cap τ)=some rk) (hj:rk.val=.int jj) (ho:(bN cap τ)[i]? =some (.own xs j)) (hq:qz xs.length jj=some qn) :
  lK X Hi τ (.Assign [.Subscript (.Name x xp) k sp] e pos) (.nx ((bN cap τ).set i (.own (xs.set qn v) (j&&m)))):=by
 intro O σ H D R hl q;let⟨h1,h2,h3,h4⟩:=iS C hx;let⟨O1,R1,s1⟩:=kZ (cap:=cap) R;let⟨o1,o2,o3⟩:=cQ h3
 let ha:∀v,assign (.Subscript (.Name x xp) k sp) X.env v=(do
   let ov<-holding [v] (eval (.Name x xp) X.env)
   let iv<-holding [v,ov] (eval k X.env)
   standAt sp
   holding [v,ov,iv] (setItem ov iv v)
   release [v,ov,iv] []):=by
  intro v;ext k<;>first|rfl|ext hns
 show ws (BM aT (BS (mF h1 (pJ C.S h4) o1 o2) aT sD ha) (by ext e<;>first|rfl|ext hnc) (by ext e<;>rfl) rfl) ?_;show(eN n).e X ct Hi _ e r C hr O1 σ H _ R1 λu H' s ok=> ?_;let⟨l,us,g1,g2,g3,g4⟩:=(R1.ext s).owns i xs j ho;exists _,g1,?_;show(eN n).e X ct Hi _ k rk C hrk O1 σ H' _ (R1.ext s) λw H2 s2 ok2=> ?_;exists l,us,jj,qn,rfl,ok2.int (R1.ext s) s2 hj,s2 _ _ g3,by rwa[<- g4.len],?_;show wT (R1.ext (s.trans s2)) hl ho g1 (((g4.mono (aO s2)).low λz=> ?_).set qn (((ok.keep R1 s hk).mono (aO s2)).low λz=> ?_)) (wL.from q (s1.trans (aO (s.trans s2))))
 ·rw[M8]at z;show z.1
 ·rw[M8]at z;show z.2
open J in
def Dy(C:bj cd X ct){k:Expr}{r K:RV}{m:Bool}{w:List PV}(hx:loc ct x=some i)(a0:fQ k=false)(I:isComp e=false)
  (hr:aX cd (ai n ct e) (bN a τ)=some r) (hk:r.keep=some (v,m)) (J:aX cd (ai n ct k) (bN a τ)=some K) (hj:iG K.val=some d) (N:(bN a τ)[i]? =some (.owd (.dK f) w j)) (hz:w.length<LN) :
  lK X Hi τ (.Assign [.Subscript (.Name x xp) k sp] e pos) (.nx ((bN a τ).set i (.owd (.dK (jb f d)) (putL f w d v) (j&&m)))):=by
 intro O E H D R W q;let⟨h1,h2,h3,h4⟩:=iS C hx;let⟨A,g,s1⟩:=kZ (cap:=a) R;let⟨o1,o2,o3⟩:=cQ h3;let a1:=C.un;show ws (je 00 (mF h1 (pJ C.S h4) o1 o2) aT aT (by ext e<;>first|rfl|ext I)) ?_;show(eN n).e X ct Hi _ e r C hr A E H _ g λu H' s ok=> ?_;obtain⟨l,us,o,Q,g2,g3,⟨rfl,h⟩,U⟩:=(g.ext s).obs i _ (.dK f) w j N rfl;exists _,Q,?_;show(eN n).e X ct Hi _ k K C J A E H' _ (g.ext s) λw H2 s2 ok2=> ?_;let Y:=tX hj (ok2.val (g.ext s) s2);subst Y;obtain⟨z1,z2⟩:=EN h;let L:qw H2 l (kV d) u (L2.upd H2 l (.dK (dm (f.zip us) d u))):=.k (s2 _ _ g3) (by rwa[List.length_zip,h,Pc,<-U.len,eZ]);rw[z1]at L;exists l,_,rfl,L,?_;let T:=s.trans s2;let R2:=(g.ext T).updB (t1:=.owd (.dK (jb f d)) (putL f w d v) (j&&m)) N rfl rfl Q ⟨rfl,z2⟩ (Hk (((ok.keep g s hk).mono (aO s2)).low λz=>by rw[M8]at z;show z.2) ((U.mono (aO s2)).low λz=>by rw[M8]at z;show z.1));show q E _ A R2 W λb o z=> ?_;let z:=s1.trans (aO T) b o z;unfold aW at z ⊢
 split at z;ext z
 ·rename_i M
  let ne:b≠l:=λc=>M (c▸g2);rwa[NJ M,aA ne]
def DK(C:bj cd X ct)(b:X.fn=λ_=>true){m:Pos}{k:Bool}(o:loc ct x=some i)(a:PIp X f (ipI g))(A:aX cd (ai n ct e) τ=some r)(l:τ[i]? =some (.frz (.int v) k))(j:r.val=.int w) :
  lK X Hi τ (.AugAssign (.Name x m) f e pos) (.nx (τ.set i (.frz (.int (g v w)) true))):=by
 intro O c H D R d q;let⟨h,I,K,J⟩:=iS C o;let p:i<c.length:=by rw[d];show(NC.mp h).1
 let y:X.N.Nodup:=by rw[C.N];show C.nd
 let⟨u,E,z⟩:=R.frz i _ _ l;cases Rp.int.mp z;show ws (Ho y h I aT a (.inl (by rw[b]))) ⟨_,E,?_⟩;show(eN n).e X ct Hi _ e r C A O c H _ R λu' H' s ok=>⟨v,w,rfl,ok.int R s j,?_⟩;show q _ _ O ((R.ext s).setF p (Rp.int.mpr rfl)) (by rwa[OU]) (aO s)
end
section
variable{cd:Nat->List PV->Option PV}{fu:Nat}
structure Mz(cd:Nat->List PV->Option PV)(fu:Nat)(n:Nat):Prop where
 s:∀(X:Cx)(ct:Ct)(Hi:Hp)(τ:En)(st:Stmt)(fl:Fl),bj cd X ct->(X.fn=fun _=>true)->gW cd fu (uk n ct st) τ=some fl->lK X Hi τ st fl
 ss:∀(X:Cx)(ct:Ct)(Hi:Hp)(τ:En)(st:List Stmt)(fl:Fl),bj cd X ct->(X.fn=fun _=>true)->bc cd fu (fw n ct st) τ=some fl->zq X Hi τ st fl
open H
def bF(h:gW cd fu .never a=some r){P:Prop}:P:=by simp[i9]at h
open J in
def stE(IH:Mz cd fu n){ct:Ct}{st:Stmt}{fl:Fl}(C:bj cd X ct)(hfn:X.fn=λ_=>true)(h:gW cd fu (uk (n+1) ct st) τ=some fl):lK X Hi τ st fl:=by
 cases st with
 |Return v pos =>
  simp only[yB]at h;cases v with
  |none =>ext h;show EE
  |some e =>
   let⟨r,hr,h⟩:=bind_some h;let⟨w,hk,h⟩:=bind_some h;obtain⟨v,m⟩:=w;dsimp only at h
   split at h
   ·rename_i hm
    ext h;subst hm;show He C hr hk
   ·ext h
 |Assign ts e pos =>
  simp only[yK]at h
  split at h
  ·rename_i x xp
   cases hx:loc ct x with
   |none=>rw[hx]at h;show bF h|some i =>rw[hx]at h;let⟨r,hr,h⟩:=bind_some h;let⟨τ',hp',h⟩:=map_some h;subst h;show Ju C hfn hx hr hp'
  ·rename_i x xp k sp
   cases hx:loc ct x with
   |none=>rw[hx]at h;show bF h|some i =>
    rw[hx]at h;dsimp only at h
    split at h;show bF h
    ·rename_i hc
     simp only[Od,not_or,Bool.not_eq_true]at hc;let⟨r,hr,h⟩:=bind_some h;let⟨w,hk,h⟩:=bind_some h;obtain⟨v,m⟩:=w;let⟨rk,hrk,h⟩:=bind_some h
     split at h
     ·rename_i jj xs j hj ho
      let⟨qn,hq,h⟩:=map_some h;subst h;show Dx C hx hc.1 hc.2 hr hk hrk hj ho hq
     ·rename_i ks xs j ho
      let⟨kk,hkk,h⟩:=bind_some h
      split at h
      ·rename_i hz
       ext h;show Dy C hx hc.1 hc.2 hr hk hrk hkk (by assumption) hz
      ·ext h
     ·ext h
  ·show bF h
 |If c a b pos =>
  let⟨t,ht,h⟩:=bind_some h;show Ix ((eN n).c X ct Hi τ c t C ht) ?_;cases t with
  |true=>show IH.ss X ct Hi τ a fl C hfn h|false=>show IH.ss X ct Hi τ b fl C hfn h
 |For tg it body els pos =>
  simp only[yF]at h;cases els with
  |cons _ _=>show bF h|nil =>
   cases ht:AY ct tg with
   |none=>rw[ht]at h;show bF h|some w =>
    obtain⟨is,one⟩:=w;rw[ht]at h;let⟨w,hw,h⟩:=bind_some h;obtain⟨xs,k,b⟩:=w;cases b with
    |true=>ext h|false=>show JJ C hfn ht hw (λτ fl h=>IH.ss X ct Hi τ body fl C hfn h) h
 |While c body els pos =>
  simp only[yA]at h;cases els with
  |cons _ _=>show bF h|nil =>simp only[io]at h;show AK C (λτ b h=>(eN n).c X ct Hi τ c b C h) (λτ fl h=>IH.ss X ct Hi τ body fl C hfn h) h
 |Pass pos =>ext h;show λO σ H D R hl q=>ws ER (q σ H O R hl (aD.refl _))
 |Break pos =>ext h;show λO σ H D R hl q=>ws BL (q σ H O R hl (aD.refl _))
 |Continue pos =>ext h;show λO σ H D R hl q=>ws sf (q σ H O R hl (aD.refl _))
 |Expr e pos =>
  simp only[yG]at h
  split at h
  ·rename_i x xp m ap es cp
   split at h
   ·rename_i hline
    cases hx:loc ct x with
    |none=>rw[hx]at h;show bF h|some i =>
     rw[hx]at h;dsimp only at h
     split at h
     ·rename_i a
      split at h;show bF h
      ·rename_i hs
       split at h
       ·rename_i hm
        simp only[jN]at h;let⟨r,hr,h⟩:=bind_some h;obtain⟨⟨v,k⟩,hk,h⟩:=bind_some h
        split at h
        ·rename_i xs j ho
         split at h
         ·rename_i hz
          ext h;show Jv C hx (Nh hm) hline (Oc.mpr hs) hr hk ho hz
         ·ext h
        ·ext h
       ·show bF h
     ·show bF h
   ·show bF h
  ·show bF h
 |AugAssign t op e pos =>
  simp only[yJ]at h
  split at h
  ·rename_i x xp
   cases hx:loc ct x with
   |none=>rw[hx]at h;show bF h|some i =>
    rw[hx]at h;let⟨r,hr,h⟩:=bind_some h
    split at h
    ·rename_i hv hw
     ext h;show DK C hfn hx Iu hr (by assumption) (by assumption)
    ·rename_i hv hw
     ext h;show DK C hfn hx Ir hr (by assumption) (by assumption)
    ·ext h
  ·show bF h
 |Raise e c pos =>
  simp only[yC]at h
  split at h
  ·split at h
   ·simp[i7]at h
   ·show bF h
  ·show bF h
 |_=>(try simp only[yM,yB,yK,yE,yF,yA,yD,yI,yH,yG,yC,yJ]at h);show bF h
theorem Mf:∀n:Nat,Mz cd fu n
 |0=>by
  show⟨λX ct Hi τ b fl C hfn h=> ?_,λX ct Hi τ b fl C hfn h=> ?_⟩
  ·simp[yM,i9]at h
  ·simp[z2g,DY,DZ,i9]at h
 |n+1=>by
  let e:=Mf n;show⟨λX ct Hi τ b fl C hfn h=>stE e C hfn h,λX ct Hi τ b fl C hfn h=> ?_⟩;cases b with
  |nil =>ext h;show λO c H D R d q=>wss dq (q c H O R d (aD.refl _))
  |cons b i =>
   simp only[z2h]at h;let⟨f,j,h⟩:=bind_some h;intro O c H D R d q;show wss (aK ps_w jc) ?_;show (e.s X ct Hi τ b f C hfn j) O c H _ R d ?_;cases f with
   |nx a=>show λσ1 H1 O1 R1 hl1 s1=>e.ss X ct Hi a i fl C hfn h O1 σ1 H1 D R1 hl1 (q.from s1)|bk a =>let h:=h;ext h;show q
   |ct a =>ext h;show q
   |rt v =>ext h;show q
end
structure AE(K:W.Frag)(mg:Str->Option Value)(P:Nat->Option FD)(F:List (Str×Nat))(G:List (Str×PV))(B:List Str)(x:Str)(f:Nat)(a:Addr)(fd:FuncData)(ps:List Str):Prop where
 ex:(mg x=some (.ref a)/\W.keepIn K (.ref a)=true/\Binds K fd ps []/\∀(p:Program)(w:World)(base:Heap)(k:Nat),(∀j,j<=k->∀y g,F.lookup y=some g->∃b gd qs,mg y=some (.ref b)/\W.keepIn K (.ref b)=true/\Binds K gd qs []/\bI p w K mg base eU j b gd qs (pS K (aF P j g)))->bI p w K mg base eU (k+1) a fd ps (pS K (aF P (k+1) f)))\/∃st N M n body,kN K mg x st ps a fd/\bA N ps (aI st)/\P f=some ⟨N.length,ps.length,body⟩/\fw n ⟨N,(aI st).names,F,G,B,M⟩ (bO st)=body
open H
def AE.def{K:W.Frag}{P:Nat->Option FD}{F:List (Str×Nat)}{G:List (Str×PV)}{B:List Str}(d:AE K b P F G B x f a e c):b x=some (.ref a)/\W.keepIn K (.ref a)=true/\Binds K e c []:=by
 rcases d.ex with⟨g,i,h,_⟩|⟨j,N,M,n,body,D,_⟩
 ·show⟨g,i,h⟩
 ·show⟨D.nm,D.fn.kp,D.bd⟩
def zO{K:W.Frag}(C:d.nn=N.length)(r:aG K H false a H h):aY K H [] (entry d a) (start N h) H:=by
 let o:=r.len;let c:∀i (t:TV),(entry d a)[i]? =some t->t=.un\/∃v u,t=.frz v (imm v)/\(start N h)[i]? =some (some u)/\Rp K H false v H u:=λi t e=>by
  unfold entry at e
  by_cases s:i<a.length
  ·rw[OD (by simpa using s),NG]at e
   let p:a[i]? =some a[i]:=by simp
   rw[p]at e;ext e;let⟨u,A,w⟩:=r.at p;show .inr (Y_23 _ u rfl ?_ w);unfold L2.start;rw[OD (by rw[M0];lia),NG,A];rfl
  ·rw[PZ (by simpa using s),List.getElem?_replicate]at e
   split at e
   ·ext e
    show .inl rfl
   ·ext e
 show⟨aD.refl _,λl o=>(by ext o),λi v n e=> ?_,λi t b xs n e ht=> ?_,λi j t t' x y l e1 ht e2 ht' g f=> ?_⟩
 ·rcases c i _ e with z|⟨q,u,z,g,f⟩
  ·ext z
  ·ext z
   exists u,g,?_;cases m:imm v with
   |true=>show Rp.imm m ⟨λ_ _ e=>e,λ_ _ _ e=>e⟩ f|false=>show f
 ·rcases c i _ e with z|⟨q,u,z,g,f⟩<;>(subst z;ext ht)
 ·rcases c i _ e1 with z|⟨q,u,z,g,f⟩<;>(subst z;ext ht)
open J in
def JK{K:W.Frag}{P:Nat->Option FD}{F:List (Str×Nat)}{G:List (Str×PV)}{B:List Str}
  (hG:∀x v,G.lookup x=some v->∃u w,I x=some u/\RelV w u/\∀Hi n H,Rp K Hi n v H w) (hB:∀x,B.contains x=true->I x=none) (hF:∀x f,F.lookup x=some f->∃a o l,AE K I P F G B x f a o l) :
  ∀(k:Nat)(x:Str)(f:Nat)(a:Addr)(o:FuncData)(l:List Str),AE K I P F G B x f a o l->bI p w K I i eU k a o l (pS K (aF P k f)):=by
 let S:∀k j,j<=k->∀x f a o l,AE K I P F G B x f a o l->bI p w K I i eU j a o l (pS K (aF P j f)):=by
  intro k
  induction k with
  |zero =>intro j X;let e:=Nat.le_zero.mp X;subst e;intro x f a o l _;show⟨λvs H Q E h=>(by let⟨_,_,_,z,_⟩:=h;ext z),λA outer s H args us vs Q E _ _ _ _ h=>(by let⟨_,_,_,z,_⟩:=h;ext z)⟩
  |succ k ih =>
  intro j X
  by_cases a0:j<=k;show ih j a0
  let e:j=k+1:=by lia
  subst e;intro x f a o l d
  rcases d.ex with⟨_,_,_,L⟩|⟨st,N,M,n,body,D,S,hP,J⟩
  ·show L p w i k λj X y g hy=>by let⟨b,gd,qs,dy⟩:=hF y g hy;let⟨z1,z2,z3⟩:=dy.def;exists b,gd,qs,z1,z2,z3,ih j X y g b gd qs dy
  let T:∀{c:List PV}{r:PV},aF P (k+1) f c=some r->c.length=l.length/\bv (bc (aF P k) 1000000 body (entry ⟨N.length,l.length,body⟩ c))=some r:=λ{c r} h=>by
   unfold aF at h;rw[hP]at h;dsimp only[Option.bind]at h
   split at h
   ·rename_i hl
    show⟨hl,h⟩
   ·ext h
  show D.fn.ok S (λvs H Q E h=> ?_) (λcdv A outer s H vs Q E hr h=> ?_)
  ·let⟨c,r,Y,m,_⟩:=h
   rw[<- Y.len];show(T m).1
  ·let⟨c,r,Y,m,q⟩:=h
   let⟨hl,m⟩:=T m;let a1:l.length<=N.length:=by have:=N6 List.length S.pre;rw[OF]at this;lia
   cases Z:bc (aF P k) 1000000 body (entry ⟨N.length,l.length,body⟩ c)with
   |none=>rw[Z]at m;ext m|some fl =>
    rw[Z]at m
    let C:bj (aF P k) (iC eU p w K I i N x (aI st) a cdv A outer s H E).nox ⟨N,(aI st).names,F,G,B,M⟩ :=
     ⟨rfl,S.nd,rfl,S.kind,rfl,hG,hB,λy g hy=>by let⟨a',O,U,d'⟩:=hF y g hy;let⟨z1,z2,z3⟩:=d'.def;show⟨k,a',O,U,ih k (NB k) y g a' O U d',hr,z1,z2,z3⟩,Ny,hr.units⟩
    rw[<- J]at Z;exists _,jc,((Mf n).ss _ _ H _ (bO st) fl C rfl Z) [] (start N vs) H _ (zO rfl Y) ?_ ?_
    ·change(start N vs).length=N.length
     unfold L2.start;rw[NO,M0,List.length_replicate];have:=Y.len;lia
    ·cases fl with
     |nx R =>ext m;show λσ' H' O' R' _ _=>q _ _ R'.same (Rp.non.mpr rfl)
     |rt v =>ext m;show q
     |bk R =>ext m|ct R =>ext m
 show λk=>S k k (NB k)
theorem dz{P:Nat->Option FD}{f n m:Nat}(h:P f=some ⟨n,m,.cons .never .nil⟩):∀(k:Nat)(a:List PV),aF P k f a=none
 |0,_=>rfl|k+1,a=>by
  unfold aF;rw[h,NU]
  split;simp[DY,DZ,i9,bv];rfl
theorem gk{K:W.Frag}{P:Nat->Option FD}{A:Program->World->Heap->Nat->Prop}(h:∀(k:Nat) (c:List PV),aF P k f c=none)(p:Program)(w:World)(b:Heap)(k:Nat)(_:A p w b k):bI p w K e b eU (k+1) a g d (pS K (aF P (k+1) f)) := ⟨λvs H Q E z=>(by let⟨_,_,_,z,_⟩:=z;rw[h]at z;ext z),λA outer s H args us c Q E _ _ _ _ z=>(by let⟨_,_,_,z,_⟩:=z;rw[h]at z;ext z)⟩
section
variable{K:W.Frag}{mg:Str->Option Value}{P:Nat->Option FD}{F0:List (Str×Nat)}{G0:List (Str×PV)}{B0:List Str}
theorem fnil:∀(x:Str)(f:Nat),([]:List (Str×Nat)).lookup x=some f->∃a c b,AE K mg P F0 G0 B0 x f a c b:=λx f h=>by ext h
open J in
theorem ac(h:∃a d b,AE K mg P F0 G0 B0 i g a d b)(j:∀(x:Str) (f:Nat),r.lookup x=some f->∃a d b,AE K mg P F0 G0 B0 x f a d b) :
  ∀(x:Str)(f:Nat),((i,g)::r).lookup x=some f->∃a d b,AE K mg P F0 G0 B0 x f a d b:=λx f e=>by
 rw[N8]at e
 split at e
 ·rename_i c
  ext e;rwa[Nh c]
 ·show j x f e
theorem gnil:∀(x:Str)(v:PV),([]:List (Str×PV)).lookup x=some v->∃u w,mg x=some u/\RelV w u/\∀a n H,Rp K a n v H w:=λx f h=>by ext h
open J in
theorem CV(h:∃u w,mg b=some u/\RelV w u/\∀a n H,Rp K a n d H w)(g:∀(x:Str) (v:PV),r.lookup x=some v->∃u w,mg x=some u/\RelV w u/\∀a n H,Rp K a n v H w) :
  ∀(x:Str)(v:PV),((b,d)::r).lookup x=some v->∃u w,mg x=some u/\RelV w u/\∀a n H,Rp K a n v H w:=λx f e=>by
 rw[N8]at e
 split at e
 ·rename_i c
  ext e;rwa[Nh c]
 ·show g x f e
theorem bnil:∀(x:Str),([]:List Str).contains x=true->mg x=none:=λx h=>by simp at h
theorem eF(h:mg a=none)(b:∀(x:Str),r.contains x=true->mg x=none):∀(x:Str),(a::r).contains x=true->mg x=none:=λx e=>by
 rw[OT,Od]at e
 rcases e with e|e
 ·rw[Nh e]
  show h
 ·show b x e
end
def Ex{c:Type}{us:List c}(h:us.length=1):∃a,us=[a]:=by
 cases us with
 |nil=>ext h|cons a us=>cases us with
  |nil=>show⟨a,rfl⟩|cons b us=>ext h
def Ew{c:Type}{us:List c}(h:us.length=2):∃a b,us=[a,b]:=by
 cases us with
 |nil=>ext h|cons a us=>let⟨b,rfl⟩:=Ex (Nat.succ.inj h);exists a,b,rfl
def Lb{d:Type}{us:List d}(h:us.length=3):∃a b c,us=[a,b,c]:=by
 cases us with
 |nil=>ext h|cons a us=>let⟨b,c,rfl⟩:=Ew (Nat.succ.inj h);exists a,b,c,rfl
def len4{e:Type}{us:List e}(h:us.length=4):∃a b c d,us=[a,b,c,d]:=by
 cases us with
 |nil=>ext h|cons a us=>let⟨b,c,d,rfl⟩:=Lb (Nat.succ.inj h);exists a,b,c,d,rfl
theorem uG{set:PV->En->Option En}{body:En->Option Fl}(I:Nat->En->Prop)(R:Fl->Prop):∀(xs ys:List PV)(τ:En),I xs.length τ -> (∀(i:Nat)(x:PV)(τ:En),(xs++ys)[i]? =some x->xs.length<=i->I i τ->∃τ1 f,set x τ=some τ1/\body τ1=some f/\(match f with| .nx τ2=>I (i+1) τ2| .ct τ2=>I (i+1) τ2| .bk τ2=>R (.nx τ2)| .rt v=>R (.rt v))) -> (∀τ,I (xs++ys).length τ->R (.nx τ))->∃fl,mV set body ys τ=some fl/\R fl
 |xs,[],τ,h0,hs,he=>(Y_12 (.nx τ) rfl (he τ (by rw[OK];show h0)))|xs,y::ys,τ,h0,hs,he=>by
  let⟨τ1,f,h1,h2,h3⟩:=hs xs.length y τ 03 (NB _) h0;let e:xs++y::ys=(xs++[y])++ys:=by simp
  let ih:=λτ2 h=>uG I R (xs++[y]) ys τ2 (by rwa[NO]) (λi x τ hx hi=>hs i x τ (by rwa[e]) (by rw[NO]at hi;lia)) (by rwa[<- e]);unfold mV;rw[h1];dsimp only[Option.bind];rw[h2];cases f with
  |nx τ2=>show ih τ2 h3|ct τ2=>show ih τ2 h3|bk τ2=>exists _,rfl,h3|rt v=>exists _,rfl,h3
theorem FU{set:PV->En->Option En}{body:En->Option Fl}{xs:List PV}{τ:En}(I:Nat->En->Prop)(R:Fl->Prop)(g:I 0 τ)
  (d:∀(i:Nat)(x:PV)(τ:En),xs[i]? =some x->I i τ->∃b f,set x τ=some b/\body b=some f/\(match f with| .nx a=>I (i+1) a| .ct a=>I (i+1) a| .bk a=>R (.nx a)| .rt v=>R (.rt v)))
  (e:∀τ,I xs.length τ->R (.nx τ)):∃c,mV set body xs τ=some c/\R c :=
 uG I R [] xs τ g (λi x τ hx _ hI=>d i x τ hx hI) e
theorem aq{f:PV->Option (Option (PV×Bool))}{g:PV->PV}{n:Bool}:∀{a:List PV},(∀x∈a,f x=some (some (g x,true)))->cG f a=some (a.map g,true)
 |[],_=>rfl|x::a,h=>by unfold cG;rw[h x M7,aq (n:=n) λy hy=>h y (M4 _ hy)];rfl
section
variable{v:PV}{n m:Bool}{xs ys:List PV}{i j:Int}{z y:Str}{a b:RV}{τ:En}{t:TV}{k:Nat}
def bK:(RV.frz v n).val=v:=rfl
def Dk:(RV.bor v).val=v:=rfl
def Dj:(RV.own xs n).val=.lst xs:=rfl
def CL:(RV.frz v n).keep=some (v,n):=rfl
def CK:(RV.own xs n).keep=some (.lst xs,n):=rfl
def E4:(RV.owd (.dK c) xs n).keep=some (.dK c xs,n):=rfl
def Ev:df (.lst xs)=some xs.length:=rfl
def Et:df (.tup xs)=some xs.length:=rfl
def len_str:df (.str z)=if z.length<=LN then some z.length else none:=rfl
def Fa:bv (some (.rt v))=some v:=rfl
def JG:lI (.frz v n::τ) 0=some (.frz v n):=rfl
def JI:lI (.own xs n::τ) 0=some (.bor (.lst xs)):=rfl
def JH:lI (t::τ) (k+1)=lI τ k:=rfl
def uE:bN [] τ=τ:=rfl
def oq:bN (k::c) τ=bN c (qT τ k):=rfl
def FR:qT (.own xs n::τ) 0=.frz (.lst xs) n::τ:=rfl
def xW:qT (.frz v n::τ) 0=.frz v n::τ:=rfl
def CZ:qT (t::τ) (k+1)=t::qT τ k:=by
 unfold qT;rw[OY];cases τ[k]? with
 |none=>rfl|some t=>ext t<;>rfl
def Fy:eM .Add (.frz (.int i) n) (.frz (.int j) m)=some (sc (.int (i+j))):=rfl
def Fu:eM .Sub (.frz (.int i) n) (.frz (.int j) m)=some (sc (.int (i-j))):=rfl
def Fv:eM .Mult (.frz (.int i) n) (.frz (.int j) m)=if(-(2^64)<i/\i<2^64)\/(-(2^64)<j/\j<2^64)then some (sc (.int (i*j)))else if i.natAbs<2^2000/\j.natAbs<2^2000 then some (sc (.int (i*j)))else none:=rfl
def Fx:eM .FloorDiv (.frz (.int i) n) (.frz (.int j) m)=if 0<j/\j<2^200 then some (sc (.int (i/j)))else none:=rfl
def Fw:eM .Mod (.frz (.int i) n) (.frz (.int j) m)=if 0<j then some (sc (.int (i%j)))else none:=rfl
def Jg:bB .Lt (.int i) (.int j)=some (decide (i<j)):=rfl
def Jh:bB .LtE (.int i) (.int j)=some (decide (i<=j)):=rfl
def Ji:bB .Gt (.int i) (.int j)=some (decide (j<i)):=rfl
def Fj:bB .Eq (.int i) (.int j)=some (decide (i=j)):=rfl
def Fi:bB .Eq (.str z) (.str y)=some (decide (z=y)):=rfl
def Fh:bB .NotEq (.int i) (.int j)=some (!decide (i=j)):=rfl
def lX:bB .NotEq (.str z) (.str y)=some (!decide (z=y)):=rfl
end
def oz{s:IS}:bc a b (.cons s c) d=(gW a b s d).bind λf=>fY f (bc a b c):=by simp only[DZ]
def Cg:bc b c .nil a=some (.nx a):=by simp only[DY]
def run{P:Nat->Option FD}{k:Nat}(c:P f=some d)(b:a.length=d.np)(h:bv (bc (aF P k) 1000000 d.body (entry d a))=some r):aF P (k+1) f a=some r:=by change(P f).bind _=_;rw[c];change(if a.length=d.np then _ else _)=_;rwa[M9 b]
section
variable{a b:RV}{t:String}{n m:Bool}{xs ys:List PV}{i j:Int}{bl:Bool}
def pP{k:En->Option Fl}:fY (.nx c) k=k c:=rfl
def Dq{k:En->Option Fl}:fY (.rt v) k=some (.rt v):=rfl
def AW:nu (.bl bl)=some bl:=rfl
def C9:lB (.bl bl)=some bl:=rfl
def CQ:E8 (.int i)=some i:=rfl
def D1:lz (.frz (.str z) n)=some (signs z,true,false):=rfl
def D5:lz (.frz (.lst xs) n)=some (xs,n,false):=rfl
def Dz:lz (.frz (.tup xs) n)=some (xs,n,false):=rfl
def D2:lz (.own xs n)=some (xs,n,false):=rfl
def LG{k:Nat}:pf true k (.own xs n) c=some (c.set k (.own xs n)):=rfl
def Hm{k:Nat}:pf false k (.own xs n) c=some (c.set k (.frz (.lst xs) n)):=rfl
def Hn{k:Nat}{o:Bool}:pf o k (.frz v n) c=some (c.set k (.frz v n)):=by ext o<;>rfl
def HD:told (.lst xs)=.own xs true:=rfl
def HA:told (.tup xs)=.frz (.tup xs) true:=rfl
def HE:told (.int i)=.frz (.int i) true:=rfl
def HF:told (.bl bl)=.frz (.bl bl) true:=rfl
def HB:told (.str z)=.frz (.str z) true:=rfl
def HC:told .non=.frz .non true:=rfl
def Jp:iJ .len [a]=(df a.val).map λn=>sc (.int (n:Nat)):=rfl
def F3:iJ (.isin t) [a]=(fJ t a.val).map λb=>sc (.bl b):=rfl
def DI:iJ .list [.frz (.tup xs) n]=some (.own xs n):=rfl
def zj:iJ .tuple [.own xs n]=some (.frz (.tup xs) n):=rfl
def Jq:iJ .all [.own xs n]=(kI xs).map λbs=>sc (.bl (bs.all id)):=rfl
def Jn:iJ .min [.frz (.int i) n,.frz (.int j) m]=some (sc (.int (if j<i then j else i))):=rfl
def Jo:iJ .max [.frz (.int i) n,.frz (.int j) m]=some (sc (.int (if j>i then j else i))):=rfl
def DG:iJ .sorted [.own xs n]=fZ xs:=rfl
def DH:iJ .sorted [.frz (.lst xs) n]=fZ xs:=rfl
def F2:iJ .sset [a]=(kR a.val).map λns=>.own ((L2.ff ns).map PV.int) true:=rfl
def Jm:iJ .str [a]=Am a.val:=rfl
def yz:du .count (.frz (.str z) n) [.frz (.str y) m]=some (sc (.int (Txt.count z y))):=rfl
def ix_L(k:Int):index (.frz (.lst xs) n) (.frz (.int k) m)=(cH xs k).map λe=>.frz e (n||imm e):=rfl
def ix_T(k:Int):index (.frz (.tup xs) n) (.frz (.int k) m)=(cH xs k).map λe=>.frz e (n||imm e):=rfl
def ix_O(k:Int):index (.own xs n) (.frz (.int k) m)=(cH xs k).map λe=>.frz e (n||imm e):=rfl
def ix_B(k:Int):index (.bor (.lst xs)) (.frz (.int k) m)=(cH xs k).map jq:=rfl
def ix_S(k:Int)(z:Str):index (.frz (.str z) n) (.frz (.int k) m)=if z.length<=LN then(cH z.cps.toList k).map λc=>sc (.str ⟨#[c]⟩)else none:=rfl
end
def tm  :fJ "str" .non=some false:=by simp[fJ]
def vi:fJ "str" (.bl b)=some false:=by simp[fJ]
def tu:fJ "str" (.int i)=some false:=by simp[fJ]
def tj:fJ "str" (.str z)=some true:=by simp[fJ]
def tq:fJ "str" (.lst a)=some false:=by simp[fJ]
def tf:fJ "str" (.tup a)=some false:=by simp[fJ]
def vh:fJ "str" (.dK a b)=some false:=by simp[fJ]
def nR  :fJ "tuple" .non=some false:=by simp[fJ]
def qJ:fJ "tuple" (.bl b)=some false:=by simp[fJ]
def nU:fJ "tuple" (.int i)=some false:=by simp[fJ]
def nQ:fJ "tuple" (.str z)=some false:=by simp[fJ]
def nS:fJ "tuple" (.lst a)=some false:=by simp[fJ]
def nP:fJ "tuple" (.tup a)=some true:=by simp[fJ]
def qI:fJ "tuple" (.dK a b)=some false:=by simp[fJ]
def nW  :bB .IsNot .non .non=some false:=rfl
def v3:bB .Is (.lst a) .non=some false:=rfl
def nV:bB .IsNot (.tup a) .non=some true:=rfl
theorem iY{a:Type}{f:PV->Option (Option (PV×Bool))}{h:a->PV}{g:a->PV}:∀{l:List a},(∀x∈l,f (h x)=some (some (g x,true)))->cG f (l.map h)=some (l.map g,true)
 |[],_=>rfl|x::xs,k=>by rw[NE];unfold cG;rw[k x M7,iY λy hy=>k y (M4 _ hy)];rfl
def To(o:Option Fl)(Q:Fl->Prop):Prop:=∃f,o=some f/\Q f
theorem Do:To (some f) Q↔Q f:=⟨λ⟨g,e,h⟩=>by ext e;show h,λh=>⟨f,rfl,h⟩⟩
def l5{P:Nat->Option FD}{k:Nat}{Q:PV->Prop}(hP:P f=some d)(hl:vs.length=d.np)(h:To (bc (aF P k) 1000000 d.body (entry d vs)) λfl=>∃v,bv (some fl)=some v/\Q v):∃v,aF P (k+1) f vs=some v/\Q v:=by show X_12 (λfl e=>X_12 λv h1 h2=> ?_) h;exists v,run hP hl (by rwa[e]),h2
def bX{P:Nat->Option FD}{k:Nat}(hP:P f=some d)(hl:vs.length=d.np)(h:To (bc (aF P k) 1000000 d.body (entry d vs)) λfl=>bv (some fl)=some r):aF P (k+1) f vs=some r:=by let⟨fl,e,h1⟩:=h;show run hP hl (by rwa[e])
section
variable{cd:Nat->List PV->Option PV}{fu:Nat}{τ:En}{cap:List Nat}{e e2:IE}{i j:Nat}{o one:Bool}{is:List Nat}{c:IC}{a b body:uu}{src:IT}
def JP:gW cd fu (.asg i o cap e) τ=(aX cd e (bN cap τ)).bind λr=>(pf o i r (bN cap τ)).map .nx:=by simp only[jM]
def JM:gW cd fu (.ret cap e) τ=(aX cd e (bN cap τ)).bind λr=>r.keep.bind λ(v,n)=>if n then some (.rt v)else none:=by simp only[i6]
def JN:gW cd fu (.ife c a b) τ=(hZ cd c τ).bind λr=>if r then bc cd fu a τ else bc cd fu b τ:=by simp only[jF]
def BI(i:Nat)(v:PV)(m:Bool)(d:En):Option Fl:=match d[i]? with
  |some (.own xs n)=>if xs.length<LN then some (.nx (d.set i (.own (xs++[v]) (n&&m))))else none|_=>none
def JQ:gW cd fu (.app i cap e) τ=(aX cd e (bN cap τ)).bind λr=>r.keep.bind λ(v,m)=>BI i v m (bN cap τ):=by rfl
def cX{n m:Bool}{xs:List PV}(h:τ[i]? =some (.own xs n))(d:xs.length<LN):BI i v m τ=some (.nx (τ.set i (.own (xs++[v]) (n&&m)))):=by unfold BI;rw[h];show M9 d
def cK{xs:List PV}{n:Bool}{k:En->Option Fl}(ht:uq cd src (bN cap τ)=some (xs,n,false))(I:Nat->En->Prop)(h0:I 0 (bN cap τ))
  (hs:∀(i:Nat)(x:PV)(τ:En),xs[i]? =some x->I i τ->∃τ1,pW is one n x τ=some τ1/\To (bc cd fu body τ1) λf=>match f with| .nx τ2=>I (i+1) τ2| .ct τ2=>I (i+1) τ2| .bk τ2=>To (k τ2) Q| .rt v=>Q (.rt v))
  (hk:∀τ',I xs.length τ' ->To (k τ') Q):To ((gW cd fu (.forr is one cap src body) τ).bind λf=>fY f k) Q:=by
 let⟨fl,e,h⟩:=FU I (λfl=>To (fY fl k) Q) h0 (λi x τ hx hI=>by
  show X_12 (λτ1 h1=>X_12 λf h2 h3=> ?_) (hs i x τ hx hI);exists τ1,f,h1,h2,?_;cases f with
  |nx τ2=>show h3|ct τ2=>show h3|bk τ2=>show h3|rt v=>exists _,rfl,h3) hk
 let e2:gW cd fu (.forr is one cap src body) τ=some fl:=by simp only[jH,ht,NU];show e
 rwa[e2]
end
theorem bD:∀l:List Str,imms (l.map PV.str)=true
 |[]=>rfl|x::l=>by rw[NE,imms,bD l];rfl
theorem ju:∀l:List Int,imms (l.map PV.int)=true
 |[]=>rfl|x::l=>by rw[NE,imms,ju l];rfl
def zh{m:Bool}:eM .Add (.frz (.lst a) n) (.own b m)=iQ (a++b) (n&&m):=rfl
def zg{m:Bool}:eM .Add (.own a n) (.own b m)=iQ (a++b) (n&&m):=rfl
def Iw:tw none=some none:=rfl
def Iv:tw (some (.frz (.int i) n))=some (some i):=rfl
def d9:slice (.frz (.lst a) n) c b=some (.own (cut a c b) (n||imms a)):=rfl
def vE:slice (.own a n) c b=some (.own (cut a c b) (n||imms a)):=rfl
def xo{b:Type}(a:List b)(k:Nat):cut a none (some (k:Int))=a.take k:=by
 unfold cut;rw[HT.A2,HT.lN,List.drop_zero,Nat.sub_zero]
 rcases Nat.le_total k a.length with h|h
 ·rw[Nat.min_eq_left h]
 ·rw[Nat.min_eq_right h,Px (NB _),Px h]
def ii(P:Nat->Option FD)(k f:Nat)(a:List PV):aF P (k+1) f a=(P f).bind λd=>if a.length=d.np then bv (bc (aF P k) 1000000 d.body (entry d a))else none:=rfl
section
variable{cd:Nat->List PV->Option PV}{fu:Nat}{τ:En}{e e2:IE}{i:Nat}
def Jt(i:Nat)(b:Operator)(y:PV)(a:En):Option Fl:=match a[i]?,y,b with
  |some (.frz (.int x) _),.int y,.Add=>some (.nx (a.set i (.frz (.int (x+y)) true)))|some (.frz (.int x) _),.int y,.Sub=>some (.nx (a.set i (.frz (.int (x-y)) true)))|_,_,_=>none
def JO:gW cd fu (.aug i a e) τ=(aX cd e τ).bind λr=>Jt i a r.val τ:=by rfl
def x3(h:τ[i]? =some (.frz (.int x) n)):Jt i .Add (.int y) τ=some (.nx (τ.set i (.frz (.int (x+y)) true))):=by unfold Jt;rw[h]
def setO(i:Nat)(k v:PV)(m:Bool)(a:En):Option Fl:=match k,a[i]? with
  | .int j,some (.own xs n)=>(L2.qz xs.length j).map λq=>.nx (a.set i (.own (xs.set q v) (n&&m)))|y,some (.owd (.dK ks) xs n)=>(iG y).bind λk=>if xs.length<LN then some (.nx (a.set i (.owd (.dK (jb ks k)) (putL ks xs k v) (n&&m))))else none|_,_=>none
def FY:gW cd fu (.seti i a e2 e) τ=(aX cd e (bN a τ)).bind λr=>r.keep.bind λ(v,m)=>(aX cd e2 (bN a τ)).bind λx=>setO i x.val v m (bN a τ):=by rfl
def set_own{xs:List PV}{n m:Bool}{j:Int}{q:Nat}(h:τ[i]? =some (.own xs n))(a:L2.qz xs.length j=some q):setO i (.int j) v m τ=some (.nx (τ.set i (.own (xs.set q v) (n&&m)))):=by unfold setO;rw[h];dsimp only;rw[a];rfl
theorem AL{c:En->Option Bool}{body:En->Option Fl}(I:Nat->En->Prop)(R:Fl->Prop)(f:∀m a,I m a->∃b,c a=some b/\(b=true->0<m/\∃d,body a=some (.nx d)/\I (m-1) d)/\(b=false->R (.nx a))) :
  ∀(k m:Nat)(a:En),m<k->I m a->∃g,Da c body k a=some g/\R g
 |0,m,a,h,_=>by lia|k+1,m,a,h,h0=>by
  let⟨b,l,j,n⟩:=f m a h0;unfold Da;rw[l];cases b with
  |false=>exists _,rfl,n rfl|true =>show X_02 (λp=>X_12 λd e o=> ?_) (j rfl);dsimp only[Option.bind];rw[M9 rfl,e];show AL I R f k (m-1) d 00 o
def whTo{body:uu}{k:En->Option Fl}(I:Nat->En->Prop)(m:Nat)(hm:m<fu)(h0:I m τ)
  (hs:∀m τ,I m τ->∃b,hZ cd c τ=some b/\(b=true->0<m/\To (bc cd fu body τ) λf=>∃τ2,f=.nx τ2/\I (m-1) τ2)/\(b=false->To (k τ) Q)):To ((gW cd fu (.whil c body) τ).bind λf=>fY f k) Q:=by
 obtain⟨fl,e,h⟩:=AL I (λfl=>To (fY fl k) Q) (λm τ hI=>by let⟨b,h1,h2,h3⟩:=hs m τ hI;exists b,h1,λz=> ?_,h3;show X_02 (λhm=>X_12 λf e=>X_12 λτ2 R4 h4=> ?_) (h2 z);subst R4;show⟨hm,Y_12 τ2 e h4⟩) fu m τ hm h0
 let e2:gW cd fu (.whil c body) τ=some fl:=by simp only[io];show e
 rwa[e2]
end
def B7:jq (.int i)=.frz (.int i) true:=rfl
def F1:iJ .sum [.frz (.lst a) n]=(aP a).map λns=>sc (.int ns.sum):=rfl
def DE{m:Bool}{k:Int}:eM .Mult (.own a n) (.frz (.int k) m)=if 0<=k/\k<=1000000/\a.length*k.toNat<=LN then some (.own (List.replicate k.toNat a).flatten n)else none:=rfl
def xr:bB .NotEq (.lst a) (.lst b)=(if nJ 12 (.lst a)&&nJ 12 (.lst b)then some (o0 (.lst a) (.lst b))else none).map (!·):=rfl
def at_0{b:Type}{x:b}{a:List b}:L2.cH (x::a) 0=some x:=by have:=bY (xs:=x::a) (j:=0) (v:=x) 03;show this
def at_1{b:Type}{x y:b}{a:List b}:L2.cH (x::y::a) 1=some y:=by have:=bY (xs:=x::y::a) (j:=1) (v:=y) 03;show this
theorem uM:∀l:List Int,me (l.map PV.int) (l.map PV.int)=true
 |[]=>rfl|x::l=>by change(o0 (.int x) (.int x)&&me (l.map PV.int) (l.map PV.int))=true;rw[uM l,Bool.and_true];show NX rfl
def mY(n:Nat)(l:List Int):nJ (n+1) (.lst (l.map PV.int))=true:=by change(l.map PV.int).all (nJ n)=true;rw[NV];intro x a;let⟨i,_,rfl⟩:=NA.mp a;ext n<;>rfl
def gF(h:((List.range n).map λi=>PV.int (0+(i:Nat)))[i]? =some x):i<n/\x=.int (i:Nat):=by
 rw[NG]at h
 by_cases a:i<n
 ·rw[Nz a]at h
  show⟨a,?_⟩;have:=(Nf h).symm
  simpa using this
 ·rw[Nl (by simpa using a)]at h
  ext h
def EC:((List.range n).map λi=>PV.int (0+(i:Nat))).length=n:=by simp
def qX(h:(List.zipWith eI (List.range a.length) a)[i]? =some x):∃y,a[i]? =some y/\x=eI i y:=by
 rw[P5]at h;cases e:a[i]? with
 |none=>rw[e]at h;cases c:(List.range a.length)[i]? <;>rw[c]at h<;>ext h|some y =>rw[e]at h;rw[Nz ((NC.mp e).1)]at h;exists y,rfl,(Nf h).symm
def uN:(List.zipWith eI (List.range a.length) a).length=a.length:=by rw[O0,NT,Pc]
def py(c d:Nat):decide ((⟨#[c]⟩:Str)=⟨#[d]⟩)=decide (c=d):=by
 by_cases h:c=d;simp
 ·rw[Nu h,Nu]
  intro e;have:=N6 (λz:Str=>z.cps.toList) e;simp at this;show h this
def gf(c:Nat):decide ((⟨#[c]⟩:Str)="x")=(c==120):=by have:=py c 120;rw[show(⟨#[120]⟩:Str)="x" from rfl]at this;rw[this];rfl
def Ic:df (.dK a b)=some a.length:=rfl
def Fz:iJ .sumv [.frz (.dK b a) n]=(aP a).map λns=>sc (.int ns.sum):=rfl
theorem cS{a:Type}{f:PV->Option (Option (PV×Bool))}{h:a->PV}{p:a->Bool}{g:a->PV}:∀{l:List a},(∀x∈l,f (h x)=some (if p x then some (g x,true)else none))->cG f (l.map h)=some ((l.filter p).map g,true)
 |[],_=>rfl|x::xs,k=>by
  rw[NE];unfold cG;rw[k x M7,cS λy hy=>k y (M4 _ hy)];cases e:p x
  ·simp[e]
  ·simp[e]
def uD{a:List Int}(h:a.length<=i):a.getD i 0=0:=by rw[M6,Nl h];rfl
def qH{j:Nat}(h:j<n):L2.qz n (j:Int)=some j:=by unfold L2.qz;rw[M9 00,M9 00];simp
def int_at{a:List Int}(h:(a.map PV.int)[i]? =some y):i<a.length/\y=.int (a.getD i 0)/\a.getD i 0∈a:=by
 rw[NG]at h;cases e:a[i]? with
 |none=>rw[e]at h;ext h|some x =>
  rw[e]at h;ext h;let b:a.getD i 0=x:=by rw[M6,e];rfl
  show⟨(NC.mp e).1,by rw[b],by rw[b];show NS e⟩
def Gb(n:Nat):(List.replicate n [PV.int 0]).flatten=(List.range n).map λ_=>PV.int 0:=by
 induction n with
 |zero=>rfl|succ n a=>rw[List.replicate_succ',List.flatten_concat,a,PJ,NP];rfl
theorem qC{a:List Int}(h:i<a.length):cH (a.map PV.int) (i:Int)=some (.int (a.getD i 0)):=bY (by rw[NG,M6,M5 h];rfl)
def jY(h:((List.range n).map λk=>PV.int (i+(k:Nat)))[j]? =some x):j<n/\x=.int (i+(j:Nat)):=by
 rw[NG]at h
 by_cases a:j<n
 ·rw[Nz a]at h
  show⟨a,(Nf h).symm⟩
 ·rw[Nl (by simpa using a)]at h
  ext h
abbrev aR:=List (Int×Int)
def av(c:aR)(k:Int):Option Int:=(c.find? λp=>decide (p.1=k)).map (·.2)
def dk(c:aR)(k v:Int):aR:=if(c.any λp=>decide (p.1=k))=true then c.map (λp=>if p.1=k then(p.1,v)else p)else c++[(k,v)]
def wF(c:aR)(k n:Int):aR:=dk c k ((av c k).getD 0+n)
def bW(t n:Int)(c:aR)(b:Int):aR:=if Builtin.bitAnd t b=0 then wF c (Builtin.bitOr t b) n else c
def cW(B:List Int)(c:aR)(p:Int×Int):aR:=B.foldl (bW p.1 p.2) c
def AA(B:List Int)(c a:aR):aR:=a.foldl (cW B) c
def wl(a:List aR)(B:List Int):Nat->List aR
 |0=>a++[[]]|i+1=>(wl a B i).set (i+1) (AA B ((wl a B i).getD (i+1) []) (a.getD i []))
def am(c:aR):List (af×V):=c.map λp=>(Sum.inl p.1,V.int p.2)
def fq(c:aR):PV:=.dK (c.map λp=>Sum.inl p.1) (c.map λp=>.int p.2)
def rC:List af->List PV->Option aR
 |[],[]=>some []| .inl k::ks,.int v::vs=>(rC ks vs).map ((k,v)::·)|_,_=>none
def unT:PV->Option aR
 | .dK a b=>rC a b|_=>none
def rY:List PV->Option (List aR)
 |[]=>some []|x::xs=>(unT x).bind λc=>(rY xs).map (c::·)
def bw:List PV->Option PV
 |[.lst ls,.lst bs]=>(rY ls).bind λLs=>(aP bs).bind λB=>if Ls.length<=100/\B.length<=100/\(Ls.all λc=>decide (c.length<=1000))=true then some (.lst ((wl Ls B Ls.length).map fq))else none|_=>none
theorem iV:∀{a:List PV}{b:List Int},aP a=some b->a=b.map PV.int
 |[],b,h=>by ext h;rfl|x::a,b,h=>by
  cases x with
  |int c =>
   let h:(aP a).map (c::·)=some b:=h;cases e:aP a with
   |none=>rw[e]at h;ext h|some d =>rw[e]at h;ext h;rw[iV e];rfl
  |_=>ext h
theorem bC:∀a:List Int,aP (a.map PV.int)=some a
 |[]=>rfl|n::a=>by rw[NE,aP,bC a];rfl
theorem rB:∀{b:List af}{a:List PV}{c:aR},rC b a=some c->b=c.map (λp=>Sum.inl p.1)/\a=c.map (λp=>.int p.2)
 |[],[],c,h=>by ext h;show⟨rfl,rfl⟩| .inl k::b,.int v::a,c,h=>by
  let h:(rC b a).map ((k,v)::·)=some c:=h;cases e:rC b a with
  |none=>rw[e]at h;ext h|some d =>rw[e]at h;ext h;let⟨f,g⟩:=rB e;show⟨by rw[f];rfl,by rw[g];rfl⟩
 | .inr z::b,a,c,h=>by ext h|[],v::a,c,h=>by ext h| .inl k::b,[],c,h=>by ext h| .inl k::b,.non::a,c,h=>by ext h| .inl k::b,.bl _::a,c,h=>by ext h| .inl k::b,.str _::a,c,h=>by ext h| .inl k::b,.lst _::a,c,h=>by ext h| .inl k::b,.tup _::a,c,h=>by ext h| .inl k::b,.dK _ _::a,c,h=>by ext h| .inl k::b,.dT _ _::a,c,h=>by ext h
def Dl(h:unT v=some c):v=fq c:=by
 cases v with
 |dK e d =>let⟨a,b⟩:=rB h;unfold fq;rw[a,b]
 |_=>ext h
theorem rX:∀{d:List PV}{a:List aR},rY d=some a->d=a.map fq
 |[],a,h=>by ext h;rfl|x::xs,a,h=>by
  simp only[rY]at h;cases e:unT x with
  |none=>rw[e]at h;ext h|some c =>
   rw[e]at h;simp only[Option.bind]at h;cases b:rY xs with
   |none=>rw[b]at h;ext h|some r =>rw[b]at h;ext h;rw[Dl e,rX b];rfl
theorem wM:∀c:aR,rC (c.map λp=>Sum.inl p.1) (c.map λp=>.int p.2)=some c
 |[]=>rfl|p::c=>by simp only[NE,rC,wM c];rfl
theorem wU:∀a:List aR,rY (a.map fq)=some a
 |[]=>rfl|c::a=>by simp only[NE,rY,wU a];change(rC _ _).bind _=_;rw[wM];rfl
def iA(c:aR)(k:Int):fg (am c) (Sum.inl k)=(av c k).map V.int:=by
 unfold fg am av
 induction c with
 |nil=>rfl|cons p c a =>
  rw[NE,OA,OA]
  by_cases e:p.1=k;simp[e]
  ·let b :¬((Sum.inl p.1:af)=Sum.inl k):=λz=>e (Sum.inl.inj z)
   simp only[e,b,O7];show a
def lW(c:aR)(k v:Int):dm (am c) (Sum.inl k) (V.int v)=am (dk c k v):=by
 unfold dm dk;let a:((am c).any λkv=>decide (kv.1=Sum.inl k))=(c.any λp=>decide (p.1=k)):=by
  unfold am;rw[List.any_map]
  congr 1
  funext p
  simp
 rw[a]
 split
 ·unfold am
  rw[NY,NY];show OM λp _=> ?_
  by_cases e:p.1=k;simp[e];simp[e]
 ·unfold am
  rw[NP];rfl
def l9(c:aR)(k v:Int):(dk c k v).length<=c.length+1:=by
 unfold dk
 split;rw[M0];lia;simp
def yY(t n:Int)(c:aR)(b:Int):(bW t n c b).length<=c.length+1:=by
 unfold bW
 split;show l9 _ _ _;lia
theorem ka(t n:Int):∀(B:List Int)(c:aR),(B.foldl (bW t n) c).length<=c.length+B.length
 |[],c=>by simp|b::B,c=>by rw[List.foldl_cons];let a:=ka t n B (bW t n c b);let d:=yY t n c b;rw[NW];lia
theorem ow(B:List Int):∀(a c:aR),(a.foldl (cW B) c).length<=c.length+a.length*B.length
 |[],c=>by simp|p::a,c=>by rw[List.foldl_cons];let b:=ow B a (cW B c p);let d:(cW B c p).length<=c.length+B.length:=ka p.1 p.2 B c;rw[NW,QJ];lia
theorem pH(a:List aR)(B:List Int):∀i,(wl a B i).length=a.length+1
 |0=>by simp[wl]|i+1=>by rw[wl,OU];show pH a B i
def xh(c:aR)(us:List V)(h:us=c.map λp=>V.int p.2):(c.map λp=>(Sum.inl p.1:af)).zip us=am c:=by
 subst h;unfold am
 induction c with
 |nil=>rfl|cons p c a=>rw[NE,NE,O9,a,NE]
def sK{K:W.Frag}(c:aR){us:List V}:aG K d n (c.map λp=>PV.int p.2) H us↔us=c.map λp=>V.int p.2:=by
 let b:(c.map λp=>PV.int p.2)=(c.map (·.2)).map PV.int:=by rw[NY];rfl
 let a:(c.map λp=>V.int p.2)=(c.map (·.2)).map V.int:=by rw[NY];rfl
 rw[b,a];show aG.ints
def Hb{K:W.Frag}(h:Rp K b n (fq c) H u):∃p,u=.ref p/\H p=some (.dK (am c)):=by let⟨p,us,rfl,_,a,d,r⟩:=h;rw[xh c us ((sK c).mp r)]at a;exists p,rfl,a
def oK{K:W.Frag}(b:a p=none)(h:H p=some (.dK (am c))):Rp K a true (fq c) H (.ref p):=by exists p,c.map λp=>V.int p.2,rfl,λ_=>b,by rwa[xh c _ rfl],03,(sK c).mpr rfl
def ur(b:Hp)(A:Addr)(a:List Addr)(e:List aR)(H:Hp):Prop :=
 aD b H/\b A=none/\H A=some (.lst (a.map V.ref))/\A∉a/\a.Nodup/\a.length=e.length/\∀(q:Nat)(d:Addr)(c:aR),a[q]? =some d->e[q]? =some c->b d=none/\H d=some (.dK (am c))
def ur.ext{A:Addr}(h:ur a A g b H)(s:aD H e):ur a A g b e :=by let⟨i,l,n,m,j,o,f⟩:=h;show⟨i.trans s,l,s _ _ n,m,j,o,λq d c e1 e2=>⟨(f q d c e1 e2).1,s _ _ (f q d c e1 e2).2⟩⟩
def ur.put{A:Addr}{c':aR}(h:ur p A g f H)(a:g[q]? =some d):ur p A g (f.set q c') (L2.upd H d (.dK (am c'))):=by
 let⟨w,C,x,m,r,u,n⟩:=h;let E:=(NC.mp a).1;let s:f[q]? =some (f[q]'(00)):=by simp[show q<f.length by lia]
 let⟨l,I⟩:=n q d _ a s;let v:A≠d:=λz=>m (z▸NS a);show⟨λb o e=>by rw[aA (aE e l)];show w b o e,C,by rwa[aA v],m,r,by rwa[OU],λq' d' c e1 e2=> ?_⟩;rw[PP]at e2
 by_cases e:q=q'
 ·subst e
  rw[a]at e1;ext e1;rw[M9 rfl,M9 00]at e2;ext e2;show⟨l,aB⟩
 ·rw[NJ e]at e2
  let⟨D,y⟩:=n q' d' c e1 e2;show⟨D,?_⟩;rw[aA λz=>e ?_]
  ·show y
  ·subst z
   have:=(List.getElem?_inj (j:=q) (NC.mp e1).1 r).mp (by rw[e1,a]);show this.symm
theorem ur.at{A:Addr}{q:Nat}(h:ur a A e b H)(f:e[q]? =some d)(g:b[q]? =some c):a d=none/\H d=some (.dK (am c)):=h.2.2.2.2.2.2 q d c f g
def ur.push{A:Addr}{p:Addr}{c:aR}(h:ur y A a f H)(i:H p=none):ur y A (a++[p]) (f++[c]) (L2.upd (L2.upd H p (.dK (am c))) A (.lst (a.map V.ref++[.ref p]))):=by
 let⟨r,C,w,v,K,I,x⟩:=h;let u:A≠p:=λz=>by rw[z,i]at w;ext w
 let g:p∉a:=λz=>by obtain⟨q,n,e⟩:=Ov.mp z;let⟨_,j⟩:=x q p (f[q]'(00)) (by rw[M5 n,e]) (by simp[show q<f.length by lia]);rw[i]at j;ext j
 show⟨λb o e=> ?_,C,?_,?_,?_,by simp[I],λq d c' e1 e2=> ?_⟩
 ·rw[aA (aE e C),aA (aE e (r.free i))]
  show r b o e
 ·rw[aB,NP]
  rfl
 ·intro z
  rcases Nc.mp z with z|z
  ·show v z
  ·show u (by simpa using z)
 ·rw[Oj]
  show⟨K,03,λa ha b hb e=>by
   have:b=p:=by simpa using hb
   rw[this]at e;show g (e▸ha)⟩
 ·by_cases n:q<a.length
  ·rw[OD n]at e1
   rw[OD 00]at e2;let⟨L,j⟩:=x q d c' e1 e2;let D:d≠A:=λz=>v (z▸NS e1);let E:d≠p:=λz=>g (z▸NS e1);show⟨L,by rwa[aA D,aA E]⟩
  ·rw[PZ 00]at e1
   rw[PZ 00]at e2;let J:q-a.length=0:=by
    cases e:q-a.length with
    |zero=>rfl|succ m=>rw[e]at e1;simp at e1
   rw[J]at e1;rw[show q-f.length=0 by lia]at e2;let s :p=d:=by simpa using e1
   let l :c=c' :=by simpa using e2
   subst s l;show⟨r.free i,by rw[aA (OC u),aB]⟩
theorem yf{o:HO}{u:HO}(d:H p=none)(f:p≠a):aD (L2.upd H a u) (L2.upd (L2.upd H p o) a u):=λb x e=>by
 by_cases c:b=a
 ·subst c
  rwa[aB]at e ⊢
 ·rw[aA c]at e ⊢
  rwa[aA (aE e d)]
def wZ{K:W.Frag}(h:bG K (L2.upd H a (.dK d)) b f):bG K H b f:=by
 let c:∀u,L2.upd H a (.dK d) b=some u->(∀k,u≠.dK k)->H b=some u:=λu e n=>by
  by_cases g:b=a
  ·subst g
   rw[aB]at e;show absurd (Nf e).symm (n _)
  ·rw[aA g]at e
   show e
 rcases h with(h|⟨o,h⟩)|h
 ·show .inl (.inl (c _ h λk z=>by ext z))
 ·show .inl (.inr ⟨o,c _ h λk z=>by ext z⟩)
 ·show .inr h
def qY{j:Nat}{k:af}(h:(am c)[j]? =some (k,x)):∃t n,c[j]? =some (t,n)/\k=.inl t/\x=.int n:=by
 unfold am at h;rw[NG]at h;cases e:c[j]? with
 |none=>rw[e]at h;ext h|some p =>rw[e]at h;have:=Nf h;ext this;exists p.1,p.2,rfl,rfl,rfl
def gX(c:aR):(am c).length=c.length:=by unfold am;rw[M0]
theorem GH(a:List aR)(B:List Int):∀(i j:Nat),i<j->(wl a B i)[j]? =(a++[[]])[j]?
 |0,j,h=>rfl|i+1,j,h=>by rw[wl,N5 00];show GH a B i j 00
def AO(h:a≠b):L2.upd (L2.upd H a x) b y=L2.upd (L2.upd H b y) a x:=by
 funext c
 unfold L2.upd
 by_cases d:c=a
 ·subst d
  rw[NJ h,M9 rfl,M9 rfl]
 ·by_cases e:c=b
  ·subst e
   rw[M9 rfl,NJ d,M9 rfl]
  ·rw[NJ e,NJ d,NJ d,NJ e]
theorem sF{K:W.Frag}{e:Hp}{H:Hp}:∀{b:List aR}{a:List Addr},a.length=b.length->(∀(q:Nat)(d:Addr)(c:aR),a[q]? =some d->b[q]? =some c->e d=none/\H d=some (.dK (am c)))->aG K e true (b.map fq) H (a.map V.ref)
 |[],[],_,_=>.nil|c::b,d::a,hl,h=>by let⟨g,f⟩:=h 0 d c rfl rfl;show .cons (oK g f) (sF (by simpa using hl) λq d' c' e1 e2=>h (q+1) d' c' (by simpa using e1) (by simpa using e2))
 |[],_::_,hl,_=>by ext hl|_::_,[],hl,_=>by ext hl
section
variable{X:Cx}{Hi:Hp}{τ:En}{cd:Nat->List PV->Option PV}{ct:Ct}{O:List Addr}{σ:L2.St}{H H' :Hp}{D:dX}
def JZ(C:bj cd X ct){n:Nat}{e':IE}{r:RV}(b:ai n ct e=e')(h:aX cd e' τ=some r)(R:aY X.K Hi O τ σ H)(q:∀u a,aD H a ->ag X.K Hi O H a r u->Q u a):WE X e σ H Q:=by subst b;show(eN n).e X ct Hi τ e r C h O σ H Q R q
theorem aG.strs'{K:W.Frag}{n:Bool}{H:Hp}:∀{c:List Str}{us:List V},aG K Hi n (c.map PV.str) H us->us=c.map V.str
 |[],us,h=>h|x::c,us,h=>by rw[NE,aG]at h;let⟨u,r,rfl,a,b⟩:=h;rw[Rp.str.mp a,aG.strs' b];rfl
end
end IR
namespace IR
open PySem
open H
def kJ(a b:Nat):Builtin.bitAnd (a:Int) (b:Int)=((a &&& b:Nat):Int):=by
 unfold Builtin.bitAnd;let c:decide ((0:Int)<=a)=true:=by simp
 simp
def ue(a:Nat):Builtin.bitNot (a:Int)= -(a:Int)-1:=by unfold Builtin.bitNot;lia
def lg(a b:Nat):Builtin.bitOr (a:Int) (b:Int)=((a ||| b:Nat):Int):=by
 unfold Builtin.bitOr Builtin.bitAnd;rw[ue,ue];let d:decide ((0:Int)<= -a-1)=false:=by simp;lia
 let f:decide ((0:Int)<= -b-1)=false:=by simp;lia
 let e:(Builtin.bitNot (-a-1)).toNat=a:=by unfold Builtin.bitNot;lia
 let c:(Builtin.bitNot (-b-1)).toNat=b:=by unfold Builtin.bitNot;lia
 rw[e,c];unfold Builtin.bitNot;lia
theorem gL:∀(n:Nat)(l:List Nat),l.Nodup->(∀x∈l,x<n)->l.length<=n
 |0,l,_,h=>by
  cases l with
  |nil=>simp|cons x l=>show absurd (h x M7) 00
 |n+1,l,nd,h=>by
  by_cases a:n∈l
  ·let b:=gL n (l.erase n) (nd.erase n) λx hx=>by
    have:=(nd.mem_erase_iff).mp hx;have:=h x this.2;lia
   rw[List.length_erase_of_mem a]at b;lia
  ·have:=gL n l nd λx hx=>by
    let c:=h x hx;have:x≠n:=λz=>a (z▸hx);lia
   lia
def ay(c:aR):Prop:=(c.map (·.1)).Nodup/\∀p∈c,(∃n:Nat,p.1=(n:Int)/\n<256)/\0<p.2
def ay.len(h:ay c):c.length<=256:=by
 let i:((c.map (·.1)).map Int.toNat).Nodup:=by rw[List.nodup_iff_pairwise_ne,Pz];show(List.nodup_iff_pairwise_ne.mp h.1).imp_of_mem λ{a b} ha hb hne e=>hne ?_;let⟨p,f,rfl⟩:=NA.mp ha;let⟨q,l,rfl⟩:=NA.mp hb;obtain⟨⟨m,d,_⟩,_⟩:=h.2 p f;obtain⟨⟨n,j,_⟩,_⟩:=h.2 q l;lia
 have:=gL 256 _ i λx hx=>by let⟨y,g,rfl⟩:=NA.mp hx;let⟨p,f,rfl⟩:=NA.mp g;obtain⟨⟨m,d,o⟩,_⟩:=h.2 p f;lia
 simpa using this
def cT(a:Int->Int):aR->Int
 |[]=>0|p::c=>p.2*a p.1+cT a c
theorem pI(a:Int->Int):∀c d:aR,cT a (c++d)=cT a c+cT a d
 |[],d=>by simp[cT]|p::c,d=>by rw[P7,cT,cT,pI a c d];lia
def x4{c:aR}{k:Int}:(c.any λp=>decide (p.1=k))=true↔k∈c.map (·.1):=by
 rw[Op,NA]
 constructor
 ·intro zm;let⟨p,a,e⟩:=zm
  exists p,a,Nj e
 ·intro zm;let⟨p,a,e⟩:=zm
  exists p,a,NX e
def EF{c:aR}{k:Int}(h:k∉c.map (·.1)):c.map (λp=>if p.1=k then(p.1,v)else p)=c:=by
 induction c with
 |nil=>rfl|cons p c b =>rw[NE]at h ⊢;let a:¬p.1=k:=λz=>h (by rw[z];show M7);rw[NJ a,b λz=>h (M4 _ z)]
def xV{k:Int}(h:k∈c.map (·.1)):∃v,av c k=some v/\(k,v)∈c:=by
 unfold av
 induction c with
 |nil=>ext h|cons p c b =>
  rw[OA]
  by_cases e:p.1=k
  ·exists p.2,by simp[e],?_
   subst e;show M7
  ·let a :k∈c.map (·.1):=by
    rcases NH.mp h with z|z
    ·show absurd z.symm e
    ·show z
   let⟨v,d,f⟩:=b a;exists v,?_,M4 _ f;simp only[e,O7];show d
def uC{k:Int}(h:k∉c.map (·.1)):av c k=none:=by
 unfold av;rw[List.find?_eq_none.mpr];rfl
 ·intro p a e
  show h (NA.mpr (Y_12 p a (Nj e)))
theorem rT(b:Int->Int){k v w:Int}:∀{c:aR},(c.map (·.1)).Nodup->av c k=some v->cT b (c.map (λp=>if p.1=k then(p.1,w)else p))=cT b c+(w-v)*b k
 |[],_,h=>by ext h|p::c,nd,h=>by
  rw[NE]at nd ⊢;let a:=Np.mp nd
  by_cases e:p.1=k
  ·subst e
   rw[M9 rfl,EF a.1];let f:v=p.2:=by unfold av at h;simp at h;show h.symm
   rw[cT,cT,Int.sub_mul];lia
  ·let d :av c k=some v:=by
    unfold av at h ⊢;rw[OA]at h;simp only[e,O7]at h;show h
   rw[NJ e,cT,cT,rT b a.2 d];lia
def wo{k:Int}(h:k∈c.map (·.1)):dk c k v=c.map (λp=>if p.1=k then(p.1,v)else p):=by unfold dk;rw[M9 (x4.mpr h)]
def sV{k:Int}(h:k∉c.map (·.1)):dk c k v=c++[(k,v)]:=by unfold dk;rw[NJ λz=>h (x4.mp z)]
def F9(a:Int->Int)(d:(c.map (·.1)).Nodup)(k n:Int):cT a (wF c k n)=cT a c+n*a k:=by
 unfold wF
 by_cases h:k∈c.map (·.1)
 ·let⟨v,b,_⟩:=xV h
  rw[wo h,b,rT a d b]
  congr 2
  simp;lia
 ·rw[sV h,uC h,pI]
  simp[cT]
def zp(h:ay c){m:Nat}(q:m<256)(r:0<n):ay (wF c (m:Int) n):=by
 unfold wF
 by_cases d:((m:Int))∈c.map (·.1)
 ·let⟨v,o,a⟩:=xV d
  rw[wo d,o];let e:(c.map (λp=>if p.1=(m:Int)then(p.1,(some v).getD 0+n)else p)).map (·.1)=c.map (·.1):=by
   rw[NY];show OM λp _=> ?_;dsimp only[Function.comp]
   split<;>rfl
  show⟨by rw[e];show h.1,λp hp=> ?_⟩;let⟨j,f,rfl⟩:=NA.mp hp;let⟨i,l⟩:=h.2 j f
  split
  ·show⟨i,?_⟩
   have:=(h.2 _ a).2;change 0<v+n;lia
  ·show⟨i,l⟩
 ·rw[sV d,uC d]
  show⟨?_,λp hp=> ?_⟩
  ·rw[NP,Oj]
   show⟨h.1,03,λa ha b g e=> ?_⟩;let g:b=m:=by simpa using g
   rw[g]at e;rw[e]at ha;show d ha
  ·rcases Nc.mp hp with z|z
   ·show h.2 p z
   ·have:p=((m:Int),none.getD 0+n):=by simpa using z
    rw[this];show⟨Y_12 m rfl q,by change 0<0+n;lia⟩
def dj(B:List Int):Prop:=∀b∈B,∃n:Nat,b=((2^n:Nat):Int)/\n<8
theorem LM(d:a<256)(c:b<256):a ||| b<256:=Nat.or_lt_two_pow (n:=8) d c
def lx(h:ay c){t:Nat}(b:t<256)(a:0<n)(d:j<8):ay (bW (t:Int) n c ((2^j:Nat):Int)):=by
 unfold bW
 split
 ·rw[lg]
  show zp h (LM b (Nat.pow_lt_pow_right 02 (show j<8 from d))) a
 ·show h
theorem fR{t:Nat}(d:t<256){n:Int}(a:0<n):∀{B:List Int}{c:aR},dj B->ay c->ay (B.foldl (bW (t:Int) n) c)
 |[],c,_,h=>h|b::B,c,hB,h=>by let⟨j,rfl,e⟩:=hB b M7;show fR (B:=B) d a (λb hb=>hB b (M4 _ hb)) (lx h d a e)
theorem jQ{B:List Int}(a:dj B):∀{lev c:aR},ay lev->ay c->ay (AA B c lev)
 |[],c,_,h=>h|p::lev,c,hl,h=>by
  obtain⟨⟨t,e,d⟩,f⟩:=hl.2 p M7;let b:ay (cW B c p):=by unfold cW;rw[e];show fR d f a h
  show jQ (lev:=lev) a ⟨(Np.mp (show(p.1::lev.map (·.1)).Nodup from hl.1)).2,λq hq=>hl.2 q (M4 _ hq)⟩ b
theorem jx:ay []:=⟨03,λp hp=>by ext hp⟩
theorem wN{a:List aR}{B:List Int}(b:dj B)(h:∀c∈a,ay c):∀i,∀c∈wl a B i,ay c
 |0,c,hc=>by
  rcases Nc.mp hc with z|z
  ·show h c z
  ·have:c=[]:=by simpa using z
   rw[this];show jx
 |i+1,c,hc=>by
  let f:=wN b h i
  rcases List.mem_or_eq_of_mem_set hc with z|z
  ·show f c z
  ·rw[z]
   show jQ b ?_ ?_
   ·rw[M6]
    cases e:a[i]? with
    |none=>show jx|some d=>show h d (NS e)
   ·rw[M6]
    cases e:(wl a B i)[i+1]? with
    |none=>show jx|some d=>show f d (NS e)
def dW(a:List (List Int)):List aR:=a.foldl (λLs B=>wl Ls B Ls.length) [[(0,1)]]
def kX(a:List (List Int))(B:List Int):dW (a++[B])=wl (dW a) B (dW a).length:=by unfold dW;rw[PQ];rfl
def cE{a:Type}{P:List a->Prop}(d:P [])(b:∀l x,P l->P (l++[x])):∀l,P l:=by
 intro l;have:∀r:List a,P r.reverse:=by
  intro r
  induction r with
  |nil=>show d|cons x r c=>rw[Py];show b _ _ c
 have:=this l.reverse
 rwa [List.reverse_reverse]at this
def g9(h:∀B∈Bs,dj B):(dW Bs).length=Bs.length+1/\∀c∈dW Bs,ay c:=by
 revert h
 show cE (P:=λBs=>(∀B∈Bs,dj B)->(dW Bs).length=Bs.length+1/\∀c∈dW Bs,ay c) ?_ ?_ Bs
 ·intro _
  show⟨rfl,λc hc=> ?_⟩;have:c=[(0,1)]:=by simpa [dW]using hc
  rw[this];show⟨03,λp hp=> ?_⟩;have:p=(0,1):=by simpa using hp
  rw[this];show⟨Y_12 0 rfl 02,02⟩
 ·intro l B ih h
  let⟨h1,h2⟩:=ih λB hB=>h B (Ni _ hB);rw[kX];show⟨by rw[pH,h1,NO];simp,wN (h B 03) h2 _⟩
def kQ(c:aR):Int:=(c.map (·.2)).sum
def yi(a:List aR):List Int:=(a.filter λc=>decide (0<c.length)).map kQ
def b9{a:Type}(l:List a)(f:a->Int):Int:=(l.map f).sum
def bJ{a:Type}(x:a)(l:List a)(f:a->Int):b9 (x::l) f=f x+b9 l f:=by unfold b9;rw[NE,Oy]
def gA{a:Type}(f:a->Int):b9 ([]:List a) f=0:=rfl
def iO{a:Type}{l:List a}{f g:a->Int}(h:∀x∈l,f x=g x):b9 l f=b9 l g:=by unfold b9;rw[OM h]
def cV{a:Type}{l:List a}{f:a->Int}(h:∀x∈l,0<=f x):0<=b9 l f:=by
 induction l with
 |nil=>show QS _|cons x l b =>rw[bJ];let c:=h x M7;let d:=b λy hy=>h y (M4 _ hy);lia
def cnt:List (List Nat)->List Nat->Nat->Int
 |[],_,0=>1|[],_,_+1=>0|_::rs,T,0=>cnt rs T 0|r::rs,T,k+1=>cnt rs T (k+1)+b9 (r.filter λc=> !T.contains c) λc=>cnt rs (c::T) k
theorem ci:∀(a:List (List Nat))(T:List Nat),cnt a T 0=1
 |[],_=>rfl|_::a,T=>by rw[cnt];show ci a T
theorem ao:∀(a:List (List Nat))(T:List Nat)(k:Nat),0<=cnt a T k
 |[],_,0=>by rw[cnt];decide|[],_,_+1=>by rw[cnt];decide|_::a,T,0=>by rw[cnt];show ao a T 0|r::a,T,k+1=>by rw[cnt];let b:=ao a T (k+1);let d:0<=b9 (r.filter λc=> !T.contains c) λc=>cnt a (c::T) k:=cV λc _=>ao a (c::T) k;lia
theorem fD:∀(a:List (List Nat)){T b :List Nat}(k:Nat),(∀r∈a,∀c∈r,T.contains c=b.contains c)->cnt a T k=cnt a b k
 |[],_,_,0,_=>rfl|[],_,_,_+1,_=>rfl|_::a,T,b,0,h=>by rw[cnt,cnt];show fD a 0 λr hr=>h r (M4 _ hr)|r::a,T,b,k+1,h=>by
  rw[cnt,cnt,fD a (k+1) λr hr=>h r (M4 _ hr)];let e:(r.filter λc=> !T.contains c)=r.filter λc=> !b.contains c:=List.filter_congr λc hc=>by rw[h r M7 c hc]
  rw[e];show N6 (_+·) (iO λc _=>fD a k λr' hr' d hd=> ?_);rw[OT,OT,h r' (M4 _ hr') d hd]
theorem lL(a b:Int->Int):∀c:aR,cT (λm=>a m+b m) c=cT a c+cT b c
 |[]=>by simp[cT]|p::c=>by rw[cT,cT,cT,lL a b c,Int.mul_add];lia
theorem eV{a χ:Int->Int}:∀{c:aR},(∀p∈c,a p.1=χ p.1)->cT a c=cT χ c
 |[],_=>rfl|p::c,h=>by rw[cT,cT,h p M7,eV λq hq=>h q (M4 _ hq)]
def Sb(B:List Int)(a:Int->Int)(m:Int):Int:=b9 B λb=>if Builtin.bitAnd m b=0 then a (Builtin.bitOr m b)else 0
theorem oy(a:Int->Int){t:Nat}(f:t<256){n:Int}(d:0<n):∀{B:List Int}{c:aR},dj B->ay c->cT a (B.foldl (bW (t:Int) n) c)=cT a c+n*Sb B a (t:Int)
 |[],c,_,_=>by rw[List.foldl_nil];unfold Sb;rw[gA];lia
 |b::B,c,hB,h=>by
  let⟨j,rfl,g⟩:=hB b M7;rw[List.foldl_cons,oy a f d (λb hb=>hB b (M4 _ hb)) (lx h f d g)];let e:cT a (bW t n c ((2^j:Nat):Int))=cT a c+n*(if Builtin.bitAnd t ((2^j:Nat):Int)=0 then a (Builtin.bitOr t ((2^j:Nat):Int))else 0):=by
   unfold bW
   split;rw[F9 a h.1];simp
  unfold Sb;rw[bJ,Int.mul_add];lia
theorem lM(b:Int->Int){B:List Int}(d:dj B):∀{a c:aR},ay a->ay c->cT b (AA B c a)=cT b c+cT (Sb B b) a
 |[],c,_,_=>by simp[AA,cT]|p::a,c,hl,h=>by
  obtain⟨⟨t,i,g⟩,j⟩:=hl.2 p M7;let f:ay a:=⟨(Np.mp (show(p.1::a.map (·.1)).Nodup from hl.1)).2,λq hq=>hl.2 q (M4 _ hq)⟩;let m:ay (cW B c p):=by unfold cW;rw[i];show fR g j d h
  let e:AA B c (p::a)=AA B (cW B c p) a:=rfl;rw[e,lM b d f m,cT];let l:cT b (cW B c p)=cT b c+p.2*Sb B b p.1:=by unfold cW;rw[i];show oy b g j d h
  lia
def Dg(B:List Int):aR->List aR->List aR
 |prev,[]=>[AA B [] prev]|prev,c::Ls=>AA B c prev::Dg B c Ls
theorem wO(B:List Int):∀(a:aR)(b:List aR)(j:Nat),(Dg B a b)[j]? =if j<=b.length then some (AA B ((b++[[]]).getD j []) ((a::b).getD j []))else none
 |a,[],0=>rfl|a,[],j+1=>by simp[Dg]|a,c::b,0=>by simp[Dg]|a,c::b,j+1=>by rw[Dg,OY,wO B c b j];simp
theorem uv(a:List aR)(B:List Int):∀(i j:Nat),i<=a.length->(wl a B i)[j]? =if j=0\/i<j then(a++[[]])[j]? else some (AA B ((a++[[]]).getD j []) (a.getD (j-1) []))
 |0,j,_=>by
  rw[wl]
  by_cases h:j=0\/0<j;rw[M9 h];lia
 |i+1,j,hi=>by
  rw[wl,PP,pH]
  by_cases h:i+1=j
  ·subst h
   rw[M9 rfl,M9 00,NJ 00,M6,uv a B i (i+1) 00,M9 (.inr 00),<-M6];rfl
  ·rw[NJ h,uv a B i j 00]
   by_cases b:j=0\/i<j;rw[M9 b,M9 00]
   ·rw[NJ b,NJ 00]
def Gv(c:aR)(r:List aR)(B:List Int):wl (c::r) B (c::r).length=c::Dg B c r:=by
 show Ow λj=> ?_;rw[uv _ _ _ _ (NB _)];cases j with
 |zero=>simp|succ j =>
  rw[OY,wO,NW]
  by_cases h:j<=r.length
  ·rw[NJ 00,M9 h]
   simp
  ·rw[M9 (.inr 00),NJ h]
   rw[Nl 000]
def cM(a:Nat->Int->Int):List aR->Int
 |[]=>0|c::Ls=>cT (a 0) c+cM (λq=>a (q+1)) Ls
theorem iM:∀{b e:Nat->Int->Int}{a:List aR},(∀q,∀c∈a,∀p∈c,b q p.1=e q p.1)->cM b a=cM e a
 |_,_,[],_=>rfl|b,e,c::a,h=>by rw[cM,cM,eV λp hp=>h 0 c M7 p hp,iM λq d hd p hp=>h (q+1) d (M4 _ hd) p hp]
theorem re{B:List Int}(e:dj B):∀(r:List aR)(b:Nat->Int->Int)(a:aR),ay a->(∀c∈r,ay c)->cM b (Dg B a r)=cT (Sb B (b 0)) a+cM (λq m=>b q m+Sb B (b (q+1)) m) r
 |[],b,a,hp,_=>by rw[Dg,cM,cM,cM,lM _ e hp jx];simp[cT]
 |c::r,b,a,hp,hr=>by let f:=hr c M7;rw[Dg,cM,cM,lM _ e hp f,re e r (λq=>b (q+1)) c f λd hd=>hr d (M4 _ hd),lL];lia
def Dm{B:List Int}(e:dj B)(f:a≠[])(h:∀c∈a,ay c)(b:Nat->Int->Int):cM b (wl a B a.length)=cM (λq m=>b q m+Sb B (b (q+1)) m) a:=by
 cases a with
 |nil=>show absurd rfl f|cons c r =>rw[Gv,cM,re e r _ c (h c M7) λd hd=>h d (M4 _ hd),cM,lL];lia
def j8(m:Nat):List Nat:=(List.range 8).filter λc=>m.testBit c
def kc{m:Nat}(a:c<8):(j8 m).contains c=m.testBit c:=by unfold j8;rw[OL,NZ,Nv,Nm];show⟨λh=>h.2,λh=>⟨a,h⟩⟩
def F7(m c:Nat):(m &&& 2^c=0)↔m.testBit c=false:=by
 constructor
 ·intro h
  have:=N6 (λx=>Nat.testBit x c) h
  simpa [Nat.testBit_and,Nat.testBit_two_pow_self]using this
 ·intro h
  show Nat.eq_of_testBit_eq λi=> ?_;rw[Nat.testBit_and,Nat.zero_testBit,Nat.testBit_two_pow]
  by_cases e:c=i
  ·subst e
   simp[h]
  ·simp[e]
def bi(r:List Nat):List Int:=r.map λc=>((2^c:Nat):Int)
theorem fU(h:∀c∈r,c<8):dj (bi r):=λb hb=>by let⟨c,a,rfl⟩:=NA.mp hb;exists c,rfl,h c a
def ut(a:List (List Nat))(k q:Nat)(m:Int):Int:=if q<=k then cnt a (j8 m.toNat) (k-q)else 0
def HX(i:∀c∈r,c<8)(a:∀r∈b,∀c∈r,c<8)(k q:Nat)(m:Nat):Sb (bi r) (ut b k (q+1)) (m:Int)=if q+1<=k then b9 (r.filter λc=> !(j8 m).contains c) (λc=>cnt b (c::j8 m) (k-(q+1)))else 0:=by
 induction r with
 |nil =>
  unfold Sb bi;rw[OH,gA,List.filter_nil,gA]
  split<;>rfl
 |cons c r h =>
  let o:Sb (bi (c::r)) (ut b k (q+1)) m=(if Builtin.bitAnd m ((2^c:Nat):Int)=0 then ut b k (q+1) (Builtin.bitOr m ((2^c:Nat):Int))else 0)+Sb (bi r) (ut b k (q+1)) m:=by unfold Sb bi;rw[NE,bJ]
  rw[o,h λd hd=>i d (M4 _ hd),kJ,lg,Oo,kc (i c M7)];let j:(((m &&& 2^c:Nat):Int)=0)↔m.testBit c=false:=by rw[<- F7];lia
  cases l:m.testBit c with
  |true =>rw[NJ (λz=>by have:=j.mp z;rw[l]at this;ext this)];simp
  |false =>
   rw[M9 (j.mpr l)];simp only[Bool.not_false,O6];unfold ut
   by_cases f:q+1<=k
   ·rw[M9 f,M9 f,M9 f,bJ]
    show N6 (·+_) (fD b _ λr' hr' d hd=> ?_);let g:=a r' hr' d hd;rw[show((m ||| 2^c:Nat):Int).toNat=m ||| 2^c by simp,kc g,OT,kc g,Nat.testBit_or,Nat.testBit_two_pow,Bool.or_comm]
    congr 1
    by_cases e:c=d;subst e;simp
    ·have:¬d=c:=λz=>e z.symm
     simp[e,this]
   ·rw[NJ f,NJ f,NJ f]
    rfl
def sZ(f:∀c∈r,c<8)(a:∀r∈b,∀c∈r,c<8)(k q:Nat)(m:Nat):ut b k q (m:Int)+Sb (bi r) (ut b k (q+1)) (m:Int)=ut (r::b) k q (m:Int):=by
 rw[HX f a];unfold ut
 by_cases d:q<=k
 ·rw[M9 d,M9 d]
  cases e:k-q with
  |zero =>rw[NJ 00,cnt];lia
  |succ j =>rw[M9 00,show k-(q+1)=j by lia,cnt];simp
 ·rw[NJ d,NJ d,NJ 00]
  rfl
def ku(a:List (List Nat)):Prop:=∀r∈a,∀c∈r,c<8
def B4(k:Nat):∀(rows aJ:List (List Nat)),ku rows->ku aJ->cM (ut aJ k) (dW (rows.map bi))=cnt (rows++aJ) [] k:=by
 intro rows;show cE (P:=λrows=>∀aJ,ku rows->ku aJ->cM (ut aJ k) (dW (rows.map bi))=cnt (rows++aJ) [] k) ?_ ?_ rows
 ·intro aJ _ _
  let e:dW (([]:List (List Nat)).map bi)=[[(0,1)]]:=rfl;rw[e,cM,cM,cT,cT];unfold ut;let e3:j8 (Int.toNat 0)=[]:=rfl;rw[e3,Nat.sub_zero,QE];lia
 ·intro l r ih aJ h1 h2
  let hr:=h1 r 03;let hl:=λr' hr' =>h1 r' (Ni _ hr');let hg:∀B∈l.map bi,dj B:=λB hB=>by let⟨r',hr',rfl⟩:=NA.mp hB;show fU (hl r' hr')
  let⟨g1,g2⟩:=g9 hg;rw[NP,NE,OH,kX,Dm (fU hr) (λz=>by rw[z]at g1;simp at g1) g2,PU];let h3:ku (r::aJ):=λr' hr' =>by
   rcases NH.mp hr' with z|z
   ·rwa[z]
   ·show h2 r' z
  rw[show[r]++aJ=r::aJ from rfl,<-ih (r::aJ) hl h3];show iM λq c hc p hp=> ?_;obtain⟨⟨m,em,_⟩,_⟩:=(g2 c hc).2 p hp;rw[em];show sZ hr h2 k q m
theorem wP:∀c:aR,cT (λ_=>1) c=kQ c
 |[]=>rfl|p::c=>by rw[cT,wP c];unfold kQ;rw[NE,Oy];lia
theorem lh:∀c:aR,cT (λ_=>0) c=0
 |[]=>rfl|p::c=>by rw[cT,lh c];lia
theorem wW:∀(Ls:List aR)(k:Nat),cM (λq _=>if q=k then 1 else 0) Ls=kQ (Ls.getD k [])
 |[],k=>by simp[cM,kQ]|c::Ls,0=>by
  rw[cM];let e1:(λ_:Int=>if 0=0 then(1:Int)else 0)=λ_=>1:=rfl;let e2:∀Ls,cM (λq _=>if q+1=0 then(1:Int)else 0) Ls=0:=by
   intro Ls;let h:∀Ls ψ,(∀q m,ψ q m=0)->cM ψ Ls=0:=by
    intro Ls
    induction Ls with
    |nil=>intro _ _;rfl|cons d Ls ih =>intro ψ hψ;rw[cM,ih _ λq m=>hψ (q+1) m,eV (χ:=λ_=>0) λp _=>hψ 0 p.1,lh];rfl
   show h Ls _ λq m=>by simp
  rw[e1,e2 Ls,wP];simp
 |c::Ls,k+1=>by
  rw[cM];let e1:cT (λ_:Int=>if 0=k+1 then(1:Int)else 0) c=0:=by
   have:(λ_:Int=>if 0=k+1 then(1:Int)else 0)=λ_=>0:=by funext _;simp
   rw[this,lh]
  let e2:(λ q (_:Int)=>if q+1=k+1 then(1:Int)else 0)=λq _=>if q=k then 1 else 0:=by funext q _;simp
  rw[e1,e2,wW Ls k];simp
def B5(a:List (List Nat))(h:ku a)(k:Nat):kQ ((dW (a.map bi)).getD k [])=cnt a [] k:=by
 let e:=B4 k a [] h (λr hr=>by ext hr);rw[OK]at e;rw[<- e,<-wW];show iM λq c _ p _=> ?_;unfold ut
 by_cases d:q=k
 ·subst d
  rw[M9 rfl,M9 (NB _),Nat.sub_self,cnt]
 ·rw[NJ d]
  by_cases b:q<=k
  ·rw[M9 b]
   cases e:k-q with
   |zero=>lia|succ j=>rw[cnt]
  ·rw[NJ b]
def Ai(h:ay c):0<c.length↔0<kQ c:=by
 cases c with
 |nil=>simp[kQ]|cons p c =>
  let i:=(h.2 p M7).2;let f:∀c,(∀q∈c,0<q.2)->0<=kQ c:=by
   intro c
   induction c with
   |nil=>intro _;show QS _|cons q c e =>intro d;let a:=d q M7;let b:=e λr hr=>d r (M4 _ hr);unfold kQ at b ⊢;rw[NE,Oy];lia
  let g:=f c λq d=>(h.2 q (M4 _ d)).2
  constructor
  ·intro _
   unfold kQ at g ⊢;rw[NE,Oy];lia
  ·intro _
   simp
def sL(a:List (List Nat))(h:ku a):yi (dW (a.map bi))=((List.range (a.length+1)).map (cnt a [])).filter λn=>decide (0<n):=by
 let m:∀B∈a.map bi,dj B:=λB hB=>by let⟨j,f,rfl⟩:=NA.mp hB;show fU (h j f)
 let⟨g,l⟩:=g9 m;let e:(dW (a.map bi)).map kQ=(List.range (a.length+1)).map (cnt a []):=by
  show Ow λi=> ?_;rw[NG,NG]
  by_cases d:i<a.length+1
  ·let b :i<(dW (a.map bi)).length:=by rwa[g,M0]
   rw[Nz d,M5 b,OJ,OJ,<-B5 a h i,M6,M5 b];rfl
  ·rw[Nl (by rw[g,M0];lia),Nl (by simpa using d)]
   rfl
 unfold yi;rw[<- e,List.filter_map]
 congr 1
 show List.filter_congr λc hc=> ?_;rw[Function.comp_apply,Pb];show Ai (l c hc)
abbrev kx:=Nat×Nat
def Js(cells:List kx)(k:Nat):List kx:=(cells.drop (k+1)).filter λc=>decide ((cells.getD k (0,0)).1<c.1)
def pl:Nat->List kx->List Int->Nat->Int
 |_,_,_,0=>1|0,_,_,_+1=>0|n+1,cells,T,j+1=>b9 (List.range cells.length) λk=>if T.contains ((cells.getD k (0,0)).2:Int)then 0 else pl n (Js cells k) (T++[((cells.getD k (0,0)).2:Int)]) j
def sR(a b:Nat):List.range (a+b)=List.range a++(List.range b).map (a+·):=by rw[List.range_add]
def fX(a:List Int):List Int:=(a.reverse.dropWhile λx=>decide (x=0)).reverse
def iL(a:List Int):fX (a++[0])=fX a:=by unfold fX;simp
def li(a:List Int)(h:y≠0):fX (a++[y])=a++[y]:=by unfold fX;simp[h]
def pL:∀(l:List Int),(∀x∈l,0<=x)->(∀(i j:Nat)(x y:Int),l[i]? =some x->l[j]? =some y->i<=j->0<y->0<x)->fX l=l.filter λn=>decide (0<n):=by
 intro l;show cE (P:=λl=>(∀x∈l,0<=x)->(∀i j x y,l[i]? =some x->l[j]? =some y->i<=j->0<y->0<x)->fX l=l.filter λn=>decide (0<n)) (λ_ _=>rfl) ?_ l;intro l y m f h;let c :=λx hx=>f x (Ni _ hx);let d :=λi j a b e1 e2=>h i j a b (by rw[OD (NC.mp e1).1];show e1) (by rwa[OD (NC.mp e2).1]);let o:=f y 03
 by_cases e:y=0
 ·subst e
  rw[iL,m c d,Pm];simp
 ·rw[li l e]
  show(List.filter_eq_self.mpr λx hx=>NX ?_).symm;obtain⟨i,g,rfl⟩:=Ov.mp hx;show h i l.length _ y (M5 g) 03 ?_ 00;have:=g;simp at this;lia
theorem iZ:∀(a:List (List Nat))(T:List Nat)(k:Nat),0<cnt a T (k+1)->0<cnt a T k
 |[],T,k,h=>by rw[cnt]at h;lia|r::a,T,0,_=>by rw[ci];decide|r::a,T,k+1,h=>by
  rw[cnt]at h ⊢;let n:=ao a T (k+1);let i:0<=b9 (r.filter λc=> !T.contains c) λc=>cnt a (c::T) k:=cV λc _=>ao a (c::T) k
  by_cases d:0<cnt a T (k+1+1)
  ·have:=iZ a T (k+1) d
   lia
  ·let m:=ao a T (k+1+1)
   let f:0<b9 (r.filter λc=> !T.contains c) λc=>cnt a (c::T) (k+1):=by lia
   let b:∀l,0<(b9 l λc=>cnt a (c::T) (k+1))->0<b9 l λc=>cnt a (c::T) k:=by
    intro l
    induction l with
    |nil=>intro h;rw[gA]at h;show absurd h 02|cons c l e =>
     intro h;rw[bJ]at h ⊢;let o:=ao a (c::T) k;let j:0<=b9 l λc=>cnt a (c::T) k:=cV λc _=>ao a (c::T) k
     by_cases g:0<cnt a (c::T) (k+1)
     ·have:=iZ a (c::T) k g
      lia
     ·have:=e (by have:=ao a (c::T) (k+1);lia)
      lia
   have:=b _ f;lia
theorem mq(a:List (List Nat))(T:List Nat):∀(j i:Nat),i<=j->0<cnt a T j->0<cnt a T i
 |0,i,h,hp=>by rw[show i=0 by lia];show hp|j+1,i,h,hp=>by by_cases e:i=j+1;rw[e];show hp;show mq a T j i 00 (iZ a T j hp)
theorem j9:∀(a:List (List Nat))(T:List Nat)(k:Nat),a.length<k->cnt a T k=0
 |[],_,0,h=>by simp at h|[],_,_+1,_=>by rw[cnt]|r::a,T,0,h=>by simp at h|r::a,T,k+1,h=>by
  rw[NW]at h;rw[cnt,j9 a T (k+1) 00];have:∀l:List Nat,(b9 l λc=>cnt a (c::T) k)=0:=by
   intro l
   induction l with
   |nil=>rfl|cons c l b=>rw[bJ,j9 a (c::T) k 00,b];rfl
  rw[this];rfl
def AX(a:List (List Nat))(h:a.length<=9):fX ((List.range 10).map (cnt a []))=((List.range (a.length+1)).map (cnt a [])).filter λn=>decide (0<n):=by
 rw[pL]
 ·obtain⟨m,o⟩:∃m,10=(a.length+1)+m:=⟨9-a.length,00⟩
  rw[o,sR,NP,Pm,NY];have:((List.range m).map (cnt a []∘λx=>a.length+1+x)).filter (λn=>decide (0<n))=[]:=by
   rw[List.filter_eq_nil_iff];intro x e;let⟨k,_,rfl⟩:=NA.mp e;rw[Function.comp_apply,j9 _ _ _ 00]
   decide
  rw[this,OK]
 ·intro x e
  let⟨k,_,rfl⟩:=NA.mp e;show ao _ _ _
 ·intro i j x y c b d f
  rw[NG]at c b;let g:i<10:=by by_cases z:i<10;show z;rw[Nl (by simpa using z)]at c;ext c
  let l:j<10:=by by_cases z:j<10;show z;rw[Nl (by simpa using z)]at b;ext b
  rw[Nz g]at c;rw[Nz l]at b;ext c;ext b;show mq a [] j i d f
def aj(z:Str):List Nat:=(List.range z.length).filter λc=>z.cps.toList.getD c 0==120
def att(a b:kx):Bool:=a.1==b.1||a.2==b.2
def yw(x:kx)(l:List kx):List kx:=l.filter λy=> !att x y
def Kq(f:kx->List kx->Int):List kx->Int
 |[]=>0|x::xs=>f x xs+Kq f xs
def rk:Nat->List kx->Int
 |0=>λ_=>1|k+1=>Kq λx xs=>rk k (yw x xs)
def freeC(T:List Nat)(l:List kx):List kx:=l.filter λc=> !T.contains c.2
end IR
namespace IR
open PySem L2
def bk(w j:Nat):Nat:=if j<w then w-1-j else j
def bH(f:Nat->Int):Nat->Int
 |0=>0|n+1=>bH f n+f n
open H
theorem cN{f g:Nat->Int}:∀n,(∀j,j<n->f j=g j)->bH f n=bH g n
 |0,_=>rfl|n+1,h=>by rw[bH,bH,cN n λj hj=>h j 00,h n 00]
theorem rm(f g:Nat->Int):∀n,bH (λj=>f j+g j) n=bH f n+bH g n
 |0=>rfl|n+1=>by rw[bH,rm f g n,bH,bH];lia
theorem gm{f:Nat->Int}:∀n,(∀j,j<n->f j=0)->bH f n=0
 |0,_=>rfl|n+1,h=>by rw[bH,gm n λj hj=>h j 00,h n 00];rfl
def ch:Nat->Nat->Nat
 |_,0=>1|0,_+1=>0|n+1,k+1=>ch n (k+1)+ch n k
def fl:Nat->Nat->Nat
 |_,0=>1|n,k+1=>n*fl (n-1) k
theorem lY:∀n k,n<k->ch n k=0
 |n,0,h=>by lia|0,k+1,_=>by rw[ch]|n+1,k+1,h=>by rw[ch,lY n (k+1) 00,lY n k 00]
def kD(n:Nat):ch n 0=1:=by ext n<;>rfl
def hX(n k:Nat):fl (n+1) (k+1)=(n+1)*fl n k:=by rfl
theorem xu:∀n k,(n+1)*ch n k=(k+1)*ch (n+1) (k+1)
 |0,0=>rfl|0,k+1=>by simp[ch]|n+1,0=>by have:=xu n 0;rw[kD]at this;rw[kD,ch,kD];lia
 |n+1,k+1=>by
  let c:ch (n+2) (k+2)=ch (n+1) (k+2)+ch (n+1) (k+1):=by rw[ch]
  let a:ch (n+1) (k+1)=ch n (k+1)+ch n k:=by rw[ch]
  rw[c,Nat.mul_add,<-(xu n (k+1))];let e:(k+2)*ch (n+1) (k+1)=(n+1)*ch n k+ch (n+1) (k+1):=by rw[xu n k];lia
  rw[e,a];lia
theorem Gc:∀k n,fl n k=ch n k*fl k k
 |0,n=>by rw[kD];rfl|k+1,0=>by rw[fl,ch];simp|k+1,n+1=>by rw[hX,hX,Gc k n,<-Nat.mul_assoc,xu n k,<-Nat.mul_assoc,Nat.mul_comm (k+1)]
theorem qU:∀k n,k<=n->0<fl n k
 |0,n,_=>by rw[fl];lia|k+1,0,h=>by lia|k+1,n+1,h=>by rw[hX];show Nat.mul_pos 00 (qU k n 00)
def fn(m n k:Nat):Int:=((ch m k*fl n k:Nat):Int)
def um(j:Nat):Int:=if j%2=0 then 1 else -1
theorem xZ:∀(k n:Nat),((fl n (k+1):Nat):Int)=(fl n k:Int)*((n:Int)-k)
 |0,n=>by simp[fl]|k+1,0=>by rw[fl,fl];simp|k+1,n+1=>by
  rw[hX n (k+1),hX n k]
  push_cast
  rw[xZ k n,Int.mul_assoc]
  congr 2
  lia
theorem uU:∀n k,ch n k<=2^n
 |n,0=>by rw[kD];show Nat.one_le_two_pow|0,k+1=>by rw[ch];show No _|n+1,k+1=>by let a:=uU n (k+1);let b:=uU n k;rw[ch,Nat.pow_succ];lia
def fl8:∀k,k<9->fl k k<50000:=by decide
def C5{k:Nat}(h:k<=n):(fl n k:Int)/(fl k k:Int)=(ch n k:Int):=by
 have:=qU k k (NB _);rw[Gc k n]
 push_cast
 show Int.mul_ediv_cancel _ 00
theorem xY:∀(k n:Nat),fl n k<=n^k
 |0,n=>by rw[fl,Nat.pow_zero];show NB _|k+1,n=>by rw[fl,Nat.pow_succ,Nat.mul_comm];show Nat.mul_le_mul_right _ (Nd (xY k (n-1)) (QG 00 k))
section
variable(b:Nat->Nat->Bool)
def hit:List Nat->List Nat->Nat->Int
 |[],_,j=>if j=0 then 1 else 0|i::L,C,j=>b9 C λc=>if b i c then(if j=0 then 0 else hit L (C.erase c) (j-1))else hit L (C.erase c) j
end
theorem rj(f:Nat->Int)(v:Int):∀n,v*bH f n=bH (λj=>v*f j) n
 |0=>by rw[bH,bH,QL]|n+1=>by rw[bH,bH,Int.mul_add,rj f v n]
theorem oA(f:Nat->Nat->Int)(m:Nat):∀n,bH (λi=>bH (λj=>f i j) m) n=bH (λj=>bH (λi=>f i j) n) m
 |0=>(gm m λ_ _=>rfl).symm|n+1=>by rw[bH,oA f m n,<-rm];show cN _ λj _=>rfl
theorem oC(f:Nat->Int)(j:Nat):∀n,j<n->bH (λi=>f i*(if i=j then 1 else 0)) n=f j
 |n+1,h=>by
  rw[bH]
  by_cases e:j=n
  ·subst e
   rw[gm j λi hi=>by rw[NJ 00,QL],M9 rfl,Int.mul_one,QK]
  ·rw[oC f j n 00,NJ 00,QL,Pd]
def mS(r:Nat->Int)(m n j:Nat):Int:=bH (λt=>um t*((ch (j+t) j:Int)*(r (j+t)*(fl (n-(j+t)) (m-(j+t)):Int)))) (m+1-j)
theorem oB(f:Nat->Int)(k:Nat)(h:∀j,j<k->f j=0):∀n,bH f (k+n)=bH (λt=>f (k+t)) n
 |0=>by rw[Nat.add_zero,bH];show gm k h|n+1=>by rw[<- Nat.add_assoc,bH,oB f k h n,bH]
theorem oF(f:Nat->Int):∀n,((List.range n).map f).sum=bH f n
 |0=>rfl|n+1=>by rw[PJ,NP,List.sum_append,oF f n,bH];simp
section
variable(b:Nat->Nat->Bool)
end
def oX(k:List Int)(c:Int):List Int:=sortI (k++[c])
def vZ(t:List Int):List Nat:=t.map Int.toNat
def fx(x:Int):Nat->Int
 |0=>1|m+1=>fx x m*(x-m)
end IR
namespace IR
def dv(f:Int):Int->List Int->List Int
 |_,[]=>[]|c,a::r=>(a-f*c)::dv f (a-f*c) r
end IR
namespace IR
end IR
namespace IR
open PySem L2
end IR
namespace IR
open PySem
end IR
namespace L2
open SQ
open H
def El{m:Nat}(b:m<256)(a:u<8):v∈lst (put m u)↔v∈lst m\/v=u:=by
 by_cases h:u∈lst m
 ·rw[BG h]
  show⟨.inl,λz=>z.elim id λe=>e▸h⟩
 ·obtain⟨-,-,e,-,-⟩:=mM b a h true
  rw[e,Nc,NH];have:v∈lst m↔v∈(lst m).take (at_ m u)\/v∈(lst m).drop (at_ m u):=by rw[<- Nc,List.take_append_drop]
  rw[this]
  constructor
  ·rintro(z|z|z)
   ·show .inl (.inl z)
   ·show .inr z
   ·show .inl (.inr z)
  ·rintro((z|z)|z)
   ·show .inl z
   ·show .inr (.inr z)
   ·show .inr (.inl z)
theorem mI{f:Nat->Nat}{v:Nat}:∀{k i m:Nat},(∀j,j<k->f (i+j)<8)->m<256->(v∈lst (pc f k i m)↔v∈lst m\/∃j,j<k/\f (i+j)=v)
 |0,i,m,_,_=>⟨.inl,λz=>z.elim id λ⟨j,h,_⟩=>absurd h (Nat.not_lt_zero _)⟩|k+1,i,m,hf,hm=>by
  unfold pc;let a:=hf 0 00;rw[Nat.add_zero]at a;rw[mI (λj b=>by rw[show i+1+j=i+(j+1)by lia];show hf (j+1) 00) (E1 hm a true).2,El hm a]
  constructor
  ·rintro((z|z)|⟨j,b,e⟩)
   ·show .inl z
   ·show .inr ⟨0,00,z.symm⟩
   ·show .inr ⟨j+1,00,by rw[<- e];congr 1;lia⟩
  ·rintro(z|⟨j,b,e⟩)
   ·show .inl (.inl z)
   ·cases j with
    |zero=>show .inl (.inr e.symm)|succ j=>show .inr ⟨j,00,by rw[<- e];congr 1;lia⟩
def B2(h:∀n∈b,0<=n/\n<8):n∈ff b↔n∈b:=by
  unfold ff maskOf;rw[NA];let c :∀j,j<b.length->b.getD j 0∈b:=λj a=>by rw[M6,M5 a];show OE a
  let f:∀j,j<b.length->(b.getD (0+j) 0).toNat<8:=λj a=>by rw[QI];have:=h _ (c j a);lia
  constructor
  · intro zm;let⟨v,g,rfl⟩:=zm
    rw[mI f 00]at g
    rcases g with z|⟨j,a,e⟩
    · show absurd z (by have:lst 0=[]:=01;rw[this];simp)
    · rw[QI]at e
      have:=h _ (c j a);rw[<- e,Int.toNat_of_nonneg this.1];show c j a
  · intro d
    obtain⟨j,a,e⟩:=List.getElem_of_mem d;exists n.toNat,(mI f 00).mpr (.inr (Y_12 j a ?_)),Int.toNat_of_nonneg (h n d).1;rw[QI,M6,M5 a,e];rfl
def xD(a:List Int):(ff a).Pairwise (·<·):=by unfold ff;rw[Pz];show(mK _).imp λz=>by lia
theorem vT(a:List Int):(ff a).Nodup:=(xD a).imp λh=>by lia
def Bi(h:∀n∈a,0<=n/\n<8)(s:a.Pairwise (·<·)):ff a=a:=by
 let c:a.Nodup:=s.imp λh=>by lia
 show ((List.perm_ext_iff_of_nodup (vT a) c).mpr λn=>B2 h).eq_of_pairwise (λa b _ _ h1 h2=>00) (xD a) s
end L2
namespace IR
open PySem
open H
def qL{H:aR}(c:(H.map (·.1)).Nodup)(h:p∈H)(g:q∈H)(e:p.1=q.1):p=q:=by
 induction H with
 |nil=>ext h|cons x H i =>
  rw[NE,Np]at c
  rcases NH.mp h with f|b
  ·rcases NH.mp g with d|a
   ·rw[f,d]
   ·show absurd (show x.1∈H.map (·.1)from NA.mpr (Y_12 q a (by rw[<- e,f]))) c.1
  ·rcases NH.mp g with d|a
   ·show absurd (show x.1∈H.map (·.1)from NA.mpr (Y_12 p b (by rw[e,d]))) c.1
   ·show i c.2 b a
def dU{T U:List Int}(nd:T.Nodup)(h:T ⊆ U):T.length<=U.length:=by
 induction T generalizing U with
 |nil=>show No _|cons x T ih =>let⟨n1,n2⟩:=Np.mp nd;let hx:=h M7;have:=ih n2 λy hy=>(List.mem_erase_of_ne (λz:y=x=>n1 (by rwa[<- z]))).mpr (h (M4 _ hy));rw[List.length_erase_of_mem hx]at this;have:=List.length_pos_of_mem hx;rw[NW];lia
def bq(h:av H c=some r):(c,r)∈H:=by
 unfold av at h;cases e:H.find? λp=>decide (p.1=c)with
 |none=>rw[e]at h;ext h|some p =>rw[e]at h;let a:=List.find?_some e;rw[<- (Nj a),<-(Nf h)];show List.mem_of_find?_eq_some e
def hV:av H c=none↔c∉H.map (·.1):=by
 unfold av;rw[Option.map_eq_none_iff,List.find?_eq_none]
 constructor
 ·intro h b
  let⟨p,a,rfl⟩:=NA.mp b;show h p a (NX rfl)
 ·intro h p a e
  show h (NA.mpr (Y_12 p a (Nj e)))
def FQ{r:Int}(d:(H.map (·.1)).Nodup)(h:(c,r)∈H):av H c=some r:=by
 cases e:av H c with
 |none=>show absurd (NA.mpr (Y_12 _ h rfl)) (hV.mp e)|some a =>let b :=bq e;have:=qL d h b rfl;rw[show a =r from(N6 Prod.snd this).symm]
def sW(h:av H c=none):dk H c r=H++[(c,r)]:=by unfold dk;rw[NJ];intro z;rw[Op]at z;let⟨p,a,e⟩:=z;show hV.mp h (NA.mpr (Y_12 p a (Nj e)))
def BH{r:Int}:∀{H:aR},(H.map (·.1)).Nodup->av H c=some g ->∃b d,H=b++(c,g)::d/\dk H c r=b++(c,r)::d:=by
 intro H f h;let i:=bq h;let⟨b,d,e⟩:=List.append_of_mem i;exists b,d,e,?_;unfold dk;rw[M9 (Op.mpr (Y_12 _ i (NX rfl))),e,NP,NE,M9 rfl];rw[e,NP,NE]at f;let j:∀p∈d,p.1≠c:=λp hp z=>(Np.mp (Oj.mp f).2.1).1 (z▸NA.mpr (Y_12 p hp rfl));let a:∀l:aR,(∀p∈l,p.1≠c)->l.map (λp=>if p.1=c then(p.1,r)else p)=l:=λl hl=>by
  conv=>rhs;rw[<- List.map_id l]
  show OM λp hp=>NJ (hl p hp)
 rw[a b (λp hp z=>(Oj.mp f).2.2 p.1 (NA.mpr (Y_12 p hp rfl)) c M7 z),a d j]
open J
def jy:av (dk H c r) d=if d=c then some r else av H d:=by
 by_cases f:d=c
 ·subst f
  rw[M9 rfl];unfold dk
  split
  ·rename_i h
   induction H with
   |nil=>ext h|cons p H g =>
    rw[NE];unfold av;rw[OA]
    by_cases e:p.1=d;simp[e]
    ·rw[NJ e]
     simp only[e,O7];rw[PK,Nu e,Bool.false_or]at h;show g h
  ·rename_i h
   unfold av;rw[List.find?_append];have:(H.find? λp=>decide (p.1=d))=none:=by rw[List.find?_eq_none];intro p i e;show h (Op.mpr (Y_12 p i e))
   rw[this];simp
 ·rw[NJ f]
  unfold dk
  split
  ·unfold av
   induction H with
   |nil=>rfl|cons p H g =>
    rename_i h;rw[NE,OA,OA];let a:((H.map λp=>if p.1=c then(p.1,r)else p).find? λp=>decide (p.1=d)).map (·.2)=(H.find? λp=>decide (p.1=d)).map (·.2):=by
     by_cases j :(H.any λp=>decide (p.1=c))=true
     ·show g j
     ·have:(H.map λp=>if p.1=c then(p.1,r)else p)=H:=by
       conv=>rhs;rw[<- List.map_id H]
       show OM λp i=>NJ λe=>j ?_;show Op.mpr (Y_12 p i (NX e))
      rw[this]
    by_cases e:p.1=c
    ·rw[M9 e]
     let b:¬p.1=d:=λz=>f (z.symm.trans e);simp only[b,O7];show a
    ·rw[NJ e]
     by_cases b:p.1=d;simp[b]
     ·simp only[b,O7]
      show a
  ·unfold av
   have:¬c=d:=λz=>f z.symm;simp[this]
def ge(C:List (List Int))(r:Int):List Int:=C.getD r.toNat []
def jS(b:aR->Int->List Int->Bool×aR×List Int)(a:Int):List Int->aR->List Int->Bool×aR×List Int
 |[],H,T=>(false,H,T)|c::cs,H,T=>if T.contains c then jS b a cs H T else match av H c with
  |none=>(true,dk H c a,T++[c])|some r=>match b H r (T++[c])with
   |(true,H',T')=>(true,dk H' c a,T')|(false,H',T')=>jS b a cs H' T'
def tk(C:List (List Int)):Nat->aR->Int->List Int->Bool×aR×List Int
 |0,H,_,T=>(false,H,T)|n+1,H,row,T=>jS (tk C n) row (ge C row) H T
structure Mt(C:List (List Int))(H:aR):Prop where
 keys:(H.map (·.1)).Nodup
 rows:(H.map (·.2)).Nodup
 edge:∀p∈H,p.1∈ge C p.2
structure Mt0(C:List (List Int))(H:aR):Prop where
 keys:(H.map (·.1)).Nodup
 edge:∀p∈H,p.1∈ge C p.2
structure Mh(C:List (List Int))(H:aR)(row:Int)(T:List Int)(H' :aR):Prop where
 good:Mt0 C H'
 rows:(H'.map (·.2)).Perm (row::H.map (·.2))
 keys:∀c,c∈H.map (·.1)->c∈H'.map (·.1)
 stay:∀c∈T,av H' c=av H c
theorem vA{C:List (List Int)}{rec:aR->Int->List Int->Bool×aR×List Int}{row:Int}
  (hr:∀H r T b H' T',Mt0 C H->rec H r T=(b,H',T')->T ⊆ T' /\(b=false->H' =H)/\(b=true->Mh C H r T H')) :
  ∀{cs:List Int}{H:aR}{T:List Int}{b:Bool}{H' :aR}{T' :List Int},(∀c∈cs,c∈ge C row)->Mt0 C H->jS rec row cs H T=(b,H',T')->T ⊆ T' /\(b=false->H' =H)/\(b=true->Mh C H row T H')
 |[],H,T,b,H',T',hc,m,h=>by ext h;show⟨λ_ z=>z,λ_=>rfl,λz=>by ext z⟩
 |c::cs,H,T,b,H',T',hc,m,h=>by
  unfold jS at h
  split at h;show vA hr (λd hd=>hc d (M4 _ hd)) m h
  ·rename_i hT
   let hT:c∉T:=λz=>hT (NZ.mpr z)
   split at h
   ·rename_i e
    ext h;show⟨List.subset_append_left _ _,(λz=>by ext z),λ_=> ?_⟩;rw[sW e];show⟨⟨?_,λp hp=> ?_⟩,?_,λd hd=> ?_,λd hd=> ?_⟩
    ·rw[NP,Oj]
     show⟨m.keys,03,λa ha x hx z=> ?_⟩;rw[List.map_singleton,Nb]at hx;subst hx z;show hV.mp e ha
    ·rcases Nc.mp hp with z|z
     ·show m.edge p z
     ·rw[Nb.mp z]
      show hc c M7
    ·rw[NP]
     show List.perm_append_comm
    ·rw[NP]
     show Ni _ hd
    ·rw[<- sW e,jy,NJ (λz:d=c=>hT (by rwa[<- z]))]
   ·rename_i r e
    cases hq:rec H r (T++[c])with
    |mk b1 w =>
     obtain⟨H1,T1⟩:=w;rw[hq]at h;let⟨k1,k2,k3⟩:=hr H r (T++[c]) b1 H1 T1 m hq;cases b1 with
     |false =>let e1:=k2 rfl;subst e1;let⟨j1,j2,j3⟩:=vA hr (λd hd=>hc d (M4 _ hd)) m h;let sub:T ⊆ T1:=λx hx=>k1 (Ni _ hx);show⟨λx hx=>j1 (sub hx),j2,λz=>by obtain⟨w1,w2,w3,w4⟩:=j3 z;show⟨w1,w2,w3,λd hd=>w4 d (sub hd)⟩⟩
     |true =>
      ext h;obtain⟨w1,w2,w3,w4⟩:=k3 rfl;show⟨λx hx=>k1 (Ni _ hx),(λz=>by ext z),λ_=> ?_⟩;let e2:av H1 c=some r:=by rw[w4 c 03,e]
      obtain⟨l1,l2,e3,e4⟩:=BH w1.keys e2;rw[e3]at w2;show⟨⟨?_,λp hp=> ?_⟩,?_,λd hd=> ?_,λd hd=> ?_⟩
      ·have:=w1.keys
       rw[e3]at this;rw[e4]
       simpa using this
      ·rw[e4]at hp
       rcases Nc.mp hp with z|z
       ·show w1.edge p (by rw[e3];show Ni _ z)
       ·rcases NH.mp z with z|z
        ·rw[z]
         show hc c M7
        ·show w1.edge p (by rw[e3];show Nr _ (M4 _ z))
      ·rw[e4,NP,NE]
       rw[NP,NE]at w2;let a1:(l1.map (·.2)++r::l2.map (·.2)).Perm (r::(l1.map (·.2)++l2.map (·.2))):=P6;let a3:(l1.map (·.2)++row::l2.map (·.2)).Perm (row::(l1.map (·.2)++l2.map (·.2))):=P6;show a3.trans (((List.perm_cons r).mp (a1.symm.trans w2)).cons row)
      ·have:=w3 d hd
       rw[e3]at this;rw[e4]
       simpa using this
      ·rw[jy,NJ (λz:d=c=>hT (by rwa[<- z]))]
       show w4 d (Ni _ hd)
open H
theorem GK{C:List (List Int)}:∀{n:Nat}{H:aR}{a:Int}{T:List Int}{b:Bool}{c :aR}{d :List Int},Mt0 C H->tk C n H a T=(b,c,d)->T ⊆ d /\(b=false->c =H)/\(b=true->Mh C H a T c)
 |0,H,a,T,b,c,d,m,h=>by ext h;show⟨λ_ z=>z,λ_=>rfl,λz=>by ext z⟩
 |n+1,H,a,T,b,c,d,m,h=>vA (λH r T b c d m h=>GK m h) (λc hc=>hc) m h
theorem Mh.mt(w:Mh C H a T b)(m:Mt C H)(c:a∉H.map (·.2)):Mt C b := ⟨w.good.keys,w.rows.nodup_iff.mpr (Np.mpr ⟨c,m.rows⟩),w.good.edge⟩
def fW(C:List (List Int))(H:aR)(S:List Int):Prop:=∀c∈S,∃r,av H c=some r/\∀d∈ge C r,d∈S
open J in
theorem vB{C:List (List Int)}{g:aR->Int->List Int->Bool×aR×List Int}{I:Int}{n:Nat}
  (D:∀H r T i b,T.Nodup->(∀c∈T,0<=c/\c<8)->8<n+T.length->g H r T=(false,i,b)->i =H/\T ⊆ b /\b.Nodup/\(∀c∈b,0<=c/\c<8)/\(∀d∈ge C r,d∈b)/\∀c∈b,c∈T\/∃q,av H c=some q/\∀d∈ge C q,d∈b) :
  ∀{l:List Int}{H:aR}{T:List Int}{i :aR}{b :List Int},(∀c∈l,0<=c/\c<8)->T.Nodup->(∀c∈T,0<=c/\c<8)->8<n+1+T.length->jS g I l H T=(false,i,b) -> i =H/\T ⊆ b /\b.Nodup/\(∀c∈b,0<=c/\c<8)/\(∀d∈l,d∈b)/\∀c∈b,c∈T\/∃q,av H c=some q/\∀d∈ge C q,d∈b
 |[],H,T,i,b,_,nd,bd,_,h=>by ext h;show⟨rfl,λ_ z=>z,nd,bd,λd a=>(by ext a),λc hc=>.inl hc⟩
 |c::l,H,T,i,b,hc,nd,bd,hn,h=>by
  unfold jS at h
  split at h
  ·rename_i j
   let⟨o,f,p,u,E,s⟩:=vB D (λd a=>hc d (M4 _ a)) nd bd hn h;show⟨o,f,p,u,λd a=> ?_,s⟩
   rcases NH.mp a with rfl|a
   ·show f (NZ.mp j)
   ·show E d a
  ·rename_i j
   let j:=λz=>j (NZ.mpr z)
   split at h;ext h
   ·rename_i r e
    let A:(T++[c]).Nodup:=by rw[Oj];show⟨nd,03,λa ha x hx z=> ?_⟩;rw[Nb]at hx;subst hx z;show j ha
    let v:∀d∈T++[c],0<=d/\d<8:=λd a=>by
     rcases Nc.mp a with z|z
     ·show bd d z
     ·rw[Nb.mp z]
      show hc c M7
    cases K:g H r (T++[c])with
    |mk b1 w =>
     obtain⟨M,J⟩:=w;rw[K]at h;cases b1 with
     |true=>ext h|false =>
      let⟨N,m,R,S,Q,L⟩:=D H r (T++[c]) M J A v (by rw[NO,PM];lia) K;subst N;let W:T.length<=J.length:=by have:=dU nd (λx hx=>m (Ni _ hx));show this
      let⟨o,f,p,u,E,s⟩:=vB D (λd a=>hc d (M4 _ a)) R S 00 h;show⟨o,λx hx=>f (m (Ni _ hx)),p,u,λd a=> ?_,λd a=> ?_⟩
      ·rcases NH.mp a with rfl|a
       ·show f (m 03)
       ·show E d a
      ·rcases s d a with z|z
       ·rcases L d z with y|⟨q,O,U⟩
        ·rcases Nc.mp y with y|y
         ·show .inl y
         ·rw[Nb.mp y]
          show .inr (Y_12 r e (λx hx=>f (Q x hx)))
        ·show .inr (Y_12 q O (λx hx=>f (U x hx)))
       ·show .inr z
theorem Ad{C:List (List Int)}(i:∀r,∀c∈ge C r,0<=c/\c<8):∀{n:Nat}{H:aR}{e:Int}{T:List Int}{g :aR}{f :List Int},T.Nodup->(∀c∈T,0<=c/\c<8)->8<n+T.length->tk C n H e T=(false,g,f) -> g =H/\T ⊆ f /\f.Nodup/\(∀c∈f,0<=c/\c<8)/\(∀d∈ge C e,d∈f)/\∀c∈f,c∈T\/∃q,av H c=some q/\∀d∈ge C q,d∈f
 |0,H,e,T,g,f,nd,bd,hn,h=>by
  let j:=dU (U:=[0,1,2,3,4,5,6,7]) nd λx hx=>by
   let⟨a,b⟩:=bd x hx;have:x=0\/x=1\/x=2\/x=3\/x=4\/x=5\/x=6\/x=7:=by lia
   simp only[NH];lia
  let j:T.length<=8:=j;lia
 |n+1,H,e,T,g,f,nd,bd,hn,h=>vB (λH r T g f nd bd hn h=>Ad i nd bd hn h) (i e) nd bd hn h
theorem lj{C:List (List Int)}{S:List Int}{a:aR->Int->List Int->Bool×aR×List Int}{l:Int}
  (i:∀H r T n q,a H r T=(false,n,q)->n =H)
  (j:∀H r T,fW C H S->(∀d∈ge C r,d∈S)->(a H r T).1=false) :
  ∀{h:List Int}{H:aR}{T:List Int},fW C H S->(∀d∈h,d∈S)->(jS a l h H T).1=false
 |[],H,T,_,_=>rfl|c::h,H,T,cl,hc=>by
  unfold jS
  split;show lj i j cl λd f=>hc d (M4 _ f)
  ·let⟨r,e,f⟩:=cl c (hc c M7)
   rw[e];dsimp only;let g:=j H r (T++[c]) cl f;cases m:a H r (T++[c])with
   |mk b w =>obtain⟨p,o⟩:=w;rw[m]at g;subst g;let s:=i H r (T++[c]) p o m;subst s;show lj i j cl λd f=>hc d (M4 _ f)
open J in
theorem lm{d:aR->Int->List Int->Bool×aR×List Int}{i:Int}(g:∀H r T a f,d H r T=(false,a,f)->a =H):∀{j:List Int}{H:aR}{T:List Int}{a :aR}{f :List Int},jS d i j H T=(false,a,f)->a =H
 |[],H,T,a,f,h=>by ext h;rfl|c::j,H,T,a,f,h=>by
  unfold jS at h
  split at h;show lm g h
  ·split at h
   ·ext h
   ·rename_i r e
    cases l:d H r (T++[c])with
    |mk b w =>
     obtain⟨m,o⟩:=w;rw[l]at h;cases b with
     |true=>ext h|false =>let n:=g H r (T++[c]) m o l;subst n;show lm g h
theorem jR{C:List (List Int)}:∀{n:Nat}{H:aR}{a:Int}{T:List Int}{b :aR}{c :List Int},tk C n H a T=(false,b,c)->b =H
 |0,H,a,T,b,c,h=>by ext h;rfl|n+1,H,a,T,b,c,h=>lm (λH r T b c h=>jR h) h
theorem wX{C:List (List Int)}{S:List Int}:∀{n:Nat}{H:aR}{a:Int}{T:List Int},fW C H S->(∀d∈ge C a,d∈S)->(tk C n H a T).1=false
 |0,H,a,T,_,_=>rfl|n+1,H,a,T,cl,hc=>lj (λH r T H' T' h=>jR h) (λH r T cl hc=>wX cl hc) cl hc
open J in
theorem pN{C:List (List Int)}{S:List Int}{a:aR->Int->List Int->Bool×aR×List Int}{p:Int}
  (n:∀H r T f g,a H r T=(false,f,g)->f =H)
  (m:∀H r T,fW C H S->(∀d∈ge C r,d∈S)->(a H r T).1=false)
  (o:∀H r T f g,fW C H S->a H r T=(true,f,g)->∀c∈S,av f c=av H c) :
  ∀{q:List Int}{H:aR}{T:List Int}{f :aR}{g :List Int},fW C H S->jS a p q H T=(true,f,g)->∀c∈S,av f c=av H c
 |[],H,T,f,g,_,h=>by ext h|c::q,H,T,f,g,cl,h=>by
  unfold jS at h
  split at h;show pN n m o cl h
  ·split at h
   ·rename_i e
    ext h;intro d j;rw[jy,NJ λz:d=c=> ?_];let⟨r,i,_⟩:=cl d j;rw[z,e]at i;ext i
   ·rename_i r e
    cases l:a H r (T++[c])with
    |mk b w =>
     obtain⟨u,s⟩:=w;rw[l]at h;cases b with
     |true =>
      ext h;intro d j;rw[jy,NJ λz:d=c=> ?_]
      ·show o H r (T++[c]) _ _ cl l d j
      ·let⟨y,i,x⟩:=cl d j
       rw[z,e]at i;ext i;have:=m H r (T++[c]) cl x;rw[l]at this;ext this
     |false =>rw[n H r (T++[c]) u s l]at h;show pN n m o cl h
theorem Ac{C:List (List Int)}{S:List Int}:∀{n:Nat}{H:aR}{a:Int}{T:List Int}{b :aR}{d :List Int},fW C H S->tk C n H a T=(true,b,d)->∀c∈S,av b c=av H c
 |0,H,a,T,b,d,_,h=>by ext h|n+1,H,a,T,b,d,cl,h=>pN (λH r T b d h=>jR h) (λH r T cl hc=>wX cl hc) (λH r T b d cl h=>Ac cl h) cl h
def hd(C:List (List Int)):Nat->aR
 |0=>[]|k+1=>(tk C 9 (hd C k) (k:Nat) []).2.1
structure uj(C:List (List Int))(k:Nat)(H:aR):Prop where
 mt:Mt C H
 rows:∀r∈H.map (·.2),(0:Int)<=r/\r<(k:Int)
 shut:∃S:List Int,fW C H S/\(∀c∈S,0<=c/\c<8)/\∀i:Nat,i<k->(i:Int)∈H.map (·.2)\/∀c∈ge C (i:Nat),c∈S
theorem t9{C:List (List Int)}(n:∀r,∀c∈ge C r,0<=c/\c<8):∀k:Nat,uj C k (hd C k)
 |0=>⟨⟨.nil,.nil,λp hp=>(by ext hp)⟩,λr hr=>(by ext hr),[],λc hc=>(by ext hc),λc hc=>(by ext hc),λi hi=>00⟩|k+1=>by
  let a:=t9 n k;let⟨S,l,o,m⟩:=a.shut;let E:(k:Int)∉(hd C k).map (·.2):=λz=>by have:=a.rows _ z;lia
  unfold hd;cases j:tk C 9 (hd C k) k []with
  |mk b w =>
   obtain⟨H,s⟩:=w;let⟨_,v,u⟩:=GK ⟨a.mt.keys,a.mt.edge⟩ j;cases b with
   |false =>
    let⟨_,_,_,D,x,p⟩:=Ad n .nil (λc hc=>by ext hc) 02 j;rw[v rfl];show⟨a.mt,λr hr=>by have:=a.rows r hr;lia,S++s,λc hc=> ?_,λc hc=> ?_,λi hi=> ?_⟩
    ·rcases Nc.mp hc with z|z
     ·let⟨r,g,h⟩:=l c z
      exists r,g,λd hd=>Ni _ (h d hd)
     ·rcases p c z with y|⟨q,g,h⟩
      ·ext y
      ·exists q,g,λd hd=>Nr _ (h d hd)
    ·rcases Nc.mp hc with z|z
     ·show o c z
     ·show D c z
    ·by_cases f:i<k
     ·rcases m i f with z|z
      ·show .inl z
      ·show .inr λc hc=>Ni _ (z c hc)
     ·have:i=k:=by lia
      subst this;show .inr λc hc=>Nr _ (x c hc)
   |true =>
    let w:=u rfl;show⟨w.mt a.mt E,λr hr=> ?_,S,λc hc=> ?_,o,λi hi=> ?_⟩
    ·rcases NH.mp (w.rows.mem_iff.mp hr)with z|z
     ·lia
     ·have:=a.rows r z
      lia
    ·let⟨r,g,h⟩:=l c hc
     exists r,by rwa[(Ac l j) c hc],h
    ·by_cases f:i<k
     ·rcases m i f with z|z
      ·show .inl (w.rows.mem_iff.mpr (M4 _ z))
      ·show .inr z
     ·have:i=k:=by lia
      subst this;show .inl (w.rows.mem_iff.mpr M7)
def k9:List PV->Option (List (List Int))
 |[]=>some []| .lst xs::r=>(aP xs).bind λns=>(k9 r).map (ns::·)|_::_=>none
def nX(C:List (List Int)):List PV:=C.map λns=>PV.lst (ns.map PV.int)
def ic(C:List (List Int)):Bool:=decide (C.length<=8)&&C.all λns=>decide (ns.length<=100)&&ns.all λc=>decide (0<=c)&&decide (c<8)
def t7:List PV->Option PV
 |[.lst cs]=>(k9 cs).bind λC=>if ic C=true then some (fq (hd C C.length))else none|_=>none
theorem o6:∀{cs:List PV}{C:List (List Int)},k9 cs=some C->cs=nX C
 |[],C,h=>by ext h;rfl|x::r,C,h=>by
  cases x with
  |lst xs =>
   let h:((aP xs).bind λns=>(k9 r).map (ns::·))=some C:=h;cases e1:aP xs with
   |none=>rw[e1]at h;ext h|some ns =>
    rw[e1]at h;cases e2:k9 r with
    |none=>rw[e2]at h;ext h|some D =>rw[e2]at h;ext h;rw[iV e1,o6 e2];rfl
  |_=>ext h
theorem o7:∀C:List (List Int),k9 (nX C)=some C
 |[]=>rfl|ns::C=>by change((aP (ns.map PV.int)).bind λns=>(k9 (nX C)).map (ns::·))=_;rw[bC,o7 C];rfl
def ib(h:ic C=true):C.length<=8/\(∀ns∈C,ns.length<=100)/\∀r,∀c∈ge C r,0<=c/\c<8:=by
 unfold ic at h;rw[M8,OV,NV]at h;show⟨h.1,λns hn=> ?_,λr c hc=> ?_⟩
 ·have:=h.2 ns hn
  rw[M8,OV]at this;show this.1
 ·unfold ge at hc
  rw[M6]at hc;cases e:C[r.toNat]? with
  |none=>rw[e]at hc;ext hc|some ns =>rw[e]at hc;have:=h.2 ns (NS e);rw[M8,NV]at this;have:=this.2 c hc;rwa[M8,OV,OV]at this
def JD(H:aR)(c:Int):Int:=(av H c).getD 0
def eK(n:Nat):List Int:=(List.range n).map λi:Nat=>(i:Int)
def gw:x∈eK n↔0<=x/\x<n:=by
 unfold eK;rw[NA]
 constructor
 ·intro zm;let⟨i,a,rfl⟩:=zm
  have:=Nm.mp a;lia
 ·intro zm;let⟨b,c⟩:=zm
  exists x.toNat,Nm.mpr 00,by lia
def tI(n:Nat):(eK n).Nodup:=by unfold eK List.Nodup;rw[Pz];show List.nodup_range.imp λh e=>h 00
def gK(n:Nat)(l:List Int):List Int:=(eK n).filter λx=> !l.contains x
def cD:x∈gK n l↔(0<=x/\x<n)/\x∉l:=by unfold gK;rw[Nv,gw];simp
theorem vQ(n:Nat)(l:List Int):(gK n l).Nodup:=(tI n).sublist Pg
theorem GT{l m:List Int}(a:l.Nodup)(b:m.Nodup)(h:∀x,x∈l↔x∈m):l.Perm m:=(List.perm_ext_iff_of_nodup a b).mpr λx=>h x
def Dw{H:aR}(c:(H.map (·.2)).Nodup)(h:p∈H)(g:q∈H)(e:p.2=q.2):p=q:=by
 induction H with
 |nil=>ext h|cons x H i =>
  rw[NE,Np]at c
  rcases NH.mp h with f|b
  ·rcases NH.mp g with d|a
   ·rw[f,d]
   ·show absurd (show x.2∈H.map (·.2)from NA.mpr (Y_12 q a (by rw[<- e,f]))) c.1
  ·rcases NH.mp g with d|a
   ·show absurd (show x.2∈H.map (·.2)from NA.mpr (Y_12 p b (by rw[e,d]))) c.1
   ·show i c.2 b a
theorem mZ{a:Type}(f:a->Bool):∀l:List a,(l.filter f).length+(l.filter λx=> !f x).length=l.length
 |[]=>rfl|x::l=>by
  have:=mZ f l;cases h:f x with
  |true=>rw[List.filter_cons_of_pos h,List.filter_cons_of_neg (by rw[h];show ND),NW,NW];lia|false=>rw[List.filter_cons_of_neg (by rw[h];show ND),List.filter_cons_of_pos (by rw[h];rfl),NW,NW];lia
def J0(C:List (List Int))(H:aR)(n:Nat)(S:List Int):Prop:=fW C H S/\∀i:Nat,i<n->(i:Int)∈H.map (·.2)\/∀c∈ge C (i:Nat),c∈S
structure ui(C:List (List Int))(H:aR)(n:Nat)(R Q:List Int)(k:Nat):Prop where
 shape:R=gK n (H.map (·.2))++Q.map (JD H)
 nod:Q.Nodup
 sub:∀S,J0 C H n S->∀c∈Q,c∈S
 done:∀j,j<k->∀r,R[j]? =some r->∀c∈ge C r,c∈Q
def qN(h:c∈H.map (·.1)):av H c=some (JD H c):=by
 unfold JD;cases e:av H c with
 |none=>show absurd h (hV.mp e)|some r=>rfl
theorem BB:ui C H n (gK n (H.map (·.2))) [] 0 := ⟨by rw[OH,OK],.nil,λS _ c hc=>(by ext hc),λj hj=>00⟩
section
variable{C:List (List Int)}{H:aR}{n k:Nat}{R Q:List Int}
def GS(h:ui C H n R Q k)(b:J0 C H n S)(f:r∈R)(a:c∈ge C r):c∈S:=by
 rw[h.shape]at f
 rcases Nc.mp f with z|z
 ·obtain⟨⟨l,g⟩,j⟩:=cD.mp z
  have:=b.2 r.toNat 00;rw[show((r.toNat:Nat):Int)=r by lia]at this;show(this.resolve_left j) c a
 ·let⟨d,i,rfl⟩:=NA.mp z
  let⟨q,e,g⟩:=b.1 d (h.sub S b d i);unfold JD at a;rw[e]at a;show g c a
def oJ(b:J0 C H n S)(a:c∈S):c∈H.map (·.1):=by let⟨r,e,_⟩:=b.1 c a;show NA.mpr (Y_12 _ (bq e) rfl)
def EJ(d:uj C n H)(h:ui C H n R Q k)(e:r∈R)(f:c∈ge C r):c∈H.map (·.1):=by let⟨S,a,g,b⟩:=d.shut;show oJ ⟨a,b⟩ (GS h ⟨a,b⟩ e f)
def l7(d:uj C n H)(h:ui C H n R Q k)(e:c∈Q):c∈H.map (·.1):=by let⟨S,a,f,b⟩:=d.shut;show oJ ⟨a,b⟩ (h.sub S ⟨a,b⟩ c e)
def EK(a:uj C n H)(h:ui C H n R Q k)(d:c∈Q):0<=c/\c<8:=by let⟨S,b,e,f⟩:=a.shut;show e c (h.sub S ⟨b,f⟩ c d)
def Hf(h:ui C H n R Q k)(g:k<=R.length)(b:r∈R)(f:c∈ge C r)(a:c∉Q):ui C H n (R++[JD H c]) (Q++[c]) k:=by
 show⟨?_,?_,λS hS d hd=> ?_,λj hj r' e d hd=> ?_⟩
 ·rw[h.shape,NP,PU]
  rfl
 ·rw[Oj]
  show⟨h.nod,03,λa ha x hx z=> ?_⟩;rw[Nb]at hx;subst hx z;show a ha
 ·rcases Nc.mp hd with z|z
  ·show h.sub S hS d z
  ·rw[Nb.mp z]
   show GS h hS b f
 ·rw[OD 00]at e
  show Ni _ (h.done j hj r' e d hd)
def EI(h:ui C H n R Q k)(a:R[k]? =some r)(b:∀c∈ge C r,c∈Q):ui C H n R Q (k+1):=by
 show⟨h.shape,h.nod,h.sub,λj hj r' e d hd=> ?_⟩
 by_cases z:j<k;show h.done j z r' e d hd
 ·have:j=k:=by lia
  subst this;rw[a]at e;ext e;show b d hd
def pd(c:uj C n H)(h:ui C H n R Q k):R.length<=n+8:=by
 let d:(gK n (H.map (·.2))).length<=n:=by show Nd (Nw _ _) ?_;unfold eK;rw[M0,NT];show NB _
 let e:Q.length<=8:=dU (U:=[0,1,2,3,4,5,6,7]) h.nod λx hx=>by let⟨a,b⟩:=EK c h hx;simp only[NH];lia
 rw[h.shape,NO,M0];lia
def sQ(j:uj C n H)(h:ui C H n R Q R.length):(gK n R).length+Q.length=H.length:=by
 let q:=j.mt.keys;let l:=j.mt.rows;let y:(H.filter λp=>Q.contains p.1).length=Q.length:=by
  have:((H.filter λp=>Q.contains p.1).map (·.1)).Perm Q:=by
   show GT (q.sublist ((Pg).map _)) h.nod λx=> ?_
   constructor
   ·intro i
    let⟨p,f,rfl⟩:=NA.mp i;show NZ.mp (Nv.mp f).2
   ·intro i
    let⟨p,f,rfl⟩:=NA.mp (l7 j h i);show NA.mpr (Y_12 p (Nv.mpr ⟨f,NZ.mpr i⟩) rfl)
  rw[<- this.length_eq,M0]
 let w:(H.filter λp=> !Q.contains p.1).length=(gK n R).length:=by
  have:((H.filter λp=> !Q.contains p.1).map (·.2)).Perm (gK n R):=by
   show GT (l.sublist ((Pg).map _)) (vQ _ _) λx=> ?_
   constructor
   ·intro i
    let⟨p,f,rfl⟩:=NA.mp i;let⟨m,s⟩:=Nv.mp f;show cD.mpr ⟨j.rows _ (NA.mpr (Y_12 p m rfl)),λz=> ?_⟩;rw[h.shape]at z
    rcases Nc.mp z with z|z
    ·show(cD.mp z).2 (NA.mpr (Y_12 p m rfl))
    ·let⟨d,o,e⟩:=NA.mp z
     let g:=bq (qN (l7 j h o));rw[e]at g;have:=Dw l m g rfl;rw[this,NZ.mpr o]at s;ext s
   ·intro i
    obtain⟨⟨a,b⟩,c⟩:=cD.mp i;let u:x∈H.map (·.2):=by by_cases z:x∈H.map (·.2);show z;show absurd (by rw[h.shape];show Ni _ (cD.mpr ⟨⟨a,b⟩,z⟩)) c
    let⟨p,f,rfl⟩:=NA.mp u;show NA.mpr (Y_12 p (Nv.mpr ⟨f,?_⟩) rfl);cases z:Q.contains p.1 with
    |false=>rfl|true =>show absurd ?_ c;rw[h.shape];show Nr _ (NA.mpr (Y_12 p.1 (NZ.mp z) ?_));unfold JD;rw[FQ q f];rfl
  rw[<- this.length_eq,M0]
 let v:(H.filter λp=>Q.contains p.1).length+(H.filter λp=> !Q.contains p.1).length=H.length:=by show mZ (λp=>Q.contains p.1) H
 lia
def Cs{p:List (Int×Int)}{K Q:List Int}(c:(p.map (·.1)).Nodup)(g:(p.map (·.2)).Nodup)(d:∀x∈p,x.1∈K\/x.2∈Q):p.length<=K.length+Q.length:=by
 let e:(p.filter λx=>K.contains x.1).length+(p.filter λx=> !K.contains x.1).length=p.length:=by show mZ (λx=>K.contains x.1) p
 let i:(p.filter λx=>K.contains x.1).length<=K.length:=by
  have:=dU (U:=K) (c.sublist ((Pg).map _)) λy hy=>by let⟨x,a,rfl⟩:=NA.mp hy;show NZ.mp (Nv.mp a).2
  rwa[M0]at this
 let h:(p.filter λx=> !K.contains x.1).length<=Q.length:=by
  have:=dU (T:=(p.filter λx=> !K.contains x.1).map (·.2)) (g.sublist ((Pg).map _)) λy hy=>by
   let⟨x,a,rfl⟩:=NA.mp hy;let⟨f,b⟩:=Nv.mp a
   rcases d x f with z|z
   ·rw[NZ.mpr z]at b
    ext b
   ·show z
  rwa[M0]at this
 lia
end
def yU{l:List Nat}{f:Nat->Int}(h:0<b9 l f):∃c∈l,0<f c:=by
 induction l with
 |nil=>rw[gA]at h;lia|cons x l b =>
  rw[bJ]at h
  by_cases e:0<f x;exists x,M7,e
  ·let⟨c,a,d⟩:=b 00
   exists c,M4 _ a,d
def Aj{l:List Nat}{f:Nat->Int}(a:∀c,0<=f c){c:Nat}(b:c∈l)(h:0<f c):0<b9 l f:=by
 induction l with
 |nil=>ext b|cons x l d =>
  rw[bJ]
  rcases NH.mp b with e|e
  ·subst e
   have:=cV (l:=l) λx _=>a x;lia
  ·have:=d e
   have:=a x;lia
def InR(b:List (List Nat))(T:List Nat)(a:Nat)(x:Int×Int):Prop:=∃i c:Nat,x=(((a+i:Nat):Int),(c:Int))/\c∈b.getD i []/\c∉T
def Fg(g:List (List Nat)):∀(T:List Nat)(k a:Nat),0<cnt g T k->∃p:List (Int×Int),p.length=k/\(p.map (·.1)).Nodup/\(p.map (·.2)).Nodup/\∀x∈p,InR g T a x:=by
 induction g with
 |nil =>
  intro T k a h;cases k with
  |zero=>exists [],rfl,.nil,.nil,λx b=>nomatch b|succ k=>rw[cnt]at h;lia
 |cons r g u =>
  intro T k a h;cases k with
  |zero=>exists [],rfl,.nil,.nil,λx b=>nomatch b|succ k =>
   rw[cnt]at h
   by_cases y:0<cnt g T (k+1)
   ·let⟨p,q,s,o,m⟩:=u T (k+1) (a+1) y
    exists p,q,s,o,λx b=> ?_;let⟨i,c,e,b1,j⟩:=m x b;exists i+1,c,by rw[e,show a+1+i=a+(i+1)by lia],b1,j
   ·let⟨c,v,w⟩:=yU (l:=r.filter λc=> !T.contains c) (f:=λc=>cnt g (c::T) k) 00
    let⟨A,n⟩:=Nv.mp v;let n:c∉T:=λz=>by rw[NZ.mpr z]at n;ext n
    let⟨p,q,s,o,m⟩:=u (c::T) k (a+1) w;exists (a,c)::p,by rw[NW,q],?_,?_,λx b=> ?_
    ·rw[NE,Np]
     show⟨λz=> ?_,s⟩;let⟨x,b,e⟩:=NA.mp z;let⟨i,d,rfl,_,_⟩:=m x b;lia
    ·rw[NE,Np]
     show⟨λz=> ?_,o⟩;let⟨x,b,e⟩:=NA.mp z;let⟨i,d,rfl,_,j⟩:=m x b;show j (by rw[show d=c by lia];show M7)
    ·rcases NH.mp b with e|e
     ·exists 0,c,e,A,n
     ·let⟨i,d,C,b1,j⟩:=m x e
      exists i+1,d,by rw[C,show a+1+i=a+(i+1)by lia],b1,λz=>j (M4 _ z)
def FK(s:List (List Nat)):∀(T:List Nat)(g:Nat)(p:List (Int×Int)),(p.map (·.1)).Nodup->(p.map (·.2)).Nodup->(∀x∈p,InR s T g x)->0<cnt s T p.length:=by
 induction s with
 |nil =>
  intro T g p _ _ h;cases p with
  |nil=>change 0<(1:Int);decide|cons x p =>let⟨i,c,_,b,_⟩:=h x M7;ext b
 |cons r s K =>
  intro T g p N Q h
  by_cases M:∃x∈p,x.1=g
  ·let⟨x,A,I⟩:=M
   let⟨n,o,rfl⟩:=List.append_of_mem A;let q1:((n++x::o).map (·.1)).Perm (x.1::(n++o).map (·.1)):=(P6).map _;let R:((n++x::o).map (·.2)).Perm (x.2::(n++o).map (·.2)):=(P6).map _;let L:=Np.mp (q1.nodup_iff.mp N);let O:=Np.mp (R.nodup_iff.mp Q);let⟨i,c,e,b1,b2⟩:=h x A;let J :i=0:=by rw[e]at I;lia
   subst J;let u:∀y∈n++o,InR s (c::T) (g+1) y:=by
    intro y v;let D :y∈n++x::o:=by
     rcases Nc.mp v with z|z
     ·show Ni _ z
     ·show Nr _ (M4 _ z)
    let⟨j,d,w,C,E⟩:=h y D;let Y:j≠0:=λz=>L.1 (NA.mpr (Y_12 y v (by rw[w,z,e])));let U:d≠c:=λz=>O.1 (NA.mpr (Y_12 y v (by rw[w,z,e])));obtain⟨q,rfl⟩:∃q,j=q +1:=⟨j-1,00⟩;exists q,d,by rw[w,show g+1+q =g+(q +1)by lia],C,λz=> ?_
    rcases NH.mp z with y|y
    ·show U y
    ·show E y
   let H:=K (c::T) (g+1) (n++o) L.2 O.2 u;let W:(n++x::o).length=(n++o).length+1:=by rw[NO,NO,NW];lia
   rw[W,cnt];let g1:=ao s T ((n++o).length+1);let Z:=Aj (l:=r.filter λc=> !T.contains c) (f:=λc=>cnt s (c::T) (n++o).length) (λc=>ao _ _ _) (Nv.mpr ⟨b1,by
    cases X:T.contains c with
    |true=>show absurd (NZ.mp X) b2|false=>rfl⟩) H
   lia
  ·let u:∀y∈p,InR s T (g+1) y:=by
    intro y v;let⟨j,d,w,C,E⟩:=h y v;let Y:j≠0:=λz=>M (Y_12 y v (by rw[w,z];rfl));obtain⟨q,rfl⟩:∃q,j=q +1:=⟨j-1,00⟩;exists q,d,by rw[w,show g+1+q =g+(q +1)by lia],C,E
   let H:=K T (g+1) p N Q u;cases S:p.length with
   |zero=>rw[ci];decide|succ m =>rw[S]at H;rw[cnt];let Z:=cV (l:=r.filter λc=> !T.contains c) (f:=λc=>cnt s (c::T) m) λc _=>ao _ _ _;lia
def ET{f:Nat->Int}{m:Nat}(g:m<N)(c:∀i,i<=m->0<f i)(e:∀i,m<i->¬0<f i):(((List.range N).map f).filter λn=>decide (0<n)).length=m+1:=by
 obtain⟨d,rfl⟩:∃d,N=(m+1)+d:=⟨N-(m+1),00⟩;rw[List.range_add,NP,Pm,List.filter_eq_self.mpr,List.filter_eq_nil_iff.mpr,OK,M0,NT]
 ·intro x a
  rw[NY]at a;let⟨i,_,rfl⟩:=NA.mp a;rw[OV];show e (m+1+i) 00
 ·intro x a
  let⟨i,b,rfl⟩:=NA.mp a;rw[Nm]at b;show NX (c _ 00)
def n9:∀{b:List PV}{a:List Str},bL b=some a->b=a.map PV.str:=by
 intro b
 induction b with
 |nil=>intro a h;ext h;rfl|cons x b c =>
  intro a h;cases x with
  |str z =>
   let h:(bL b).map (z::·)=some a:=h;cases e:bL b with
   |none=>rw[e]at h;ext h|some r =>rw[e]at h;ext h;rw[c e];rfl
  |_=>ext h
def br:∀a:List Str,bL (a.map PV.str)=some a:=by
 intro r
 induction r with
 |nil=>rfl|cons z r b=>rw[NE,bL,b];rfl
def Fq(a:List Str):Bool:=decide (1<=a.length)&&decide (a.length<=8)&&a.all (λz=>decide (z.length=(a.headD "").length)&&z.cps.toList.all λc=>c==120||c==46)&&decide (1<=(a.headD "").length)&&decide ((a.headD "").length<=8)
def xw:Fq a=true↔UM.cq 8 a:=by
 unfold Fq;simp only[M8,OV,NV,Od,Og]
 constructor
 ·rintro⟨⟨⟨⟨f,l⟩,g⟩,m⟩,i⟩
  show⟨λz=>by rw[z]at f;show absurd f 02,l,Y_13 _ m i (λz hz=>(g z hz).1),λz hz c hc=>(g z hz).2 c hc⟩
 ·intro b
  let⟨w,h,j,d⟩:=b.wide;let e:(a.headD "").length=w:=by
   cases a with
   |nil=>show absurd rfl b.some|cons y r=>show d y M7
  rw[e];show⟨⟨⟨⟨?_,b.few⟩,λz hz=>⟨d z hz,λc hc=>b.signs z hz c hc⟩⟩,h⟩,j⟩;cases a with
  |nil=>show absurd rfl b.some|cons y r=>show Nat.succ_le_succ (No _)
def ub:List PV->Option PV
 |[.tup xs]=>(bL xs).bind λrows=>if Fq rows=true then some (.bl true)else none|_=>none
open J in
def Fp(h:ub b=some r):r=.bl true/\∃a:List Str,b=[.tup (a.map .str)]/\UM.cq 8 a:=by
 unfold ub at h
 split at h
 ·rename_i c
  cases e:bL c with
  |none=>rw[e]at h;ext h|some a =>
   rw[e,NU]at h
   split at h
   ·rename_i d
    ext h;show⟨rfl,Y_12 a (by rw[n9 e]) (xw.mp d)⟩
   ·ext h
 ·ext h
def Jj(b:UM.cq 8 rows):ub [.tup (rows.map .str)]=some (.bl true):=by change((bL (rows.map PV.str)).bind λrows=>if Fq rows=true then some (PV.bl true)else none)=_;rw[br,NU,M9 (xw.mpr b)]
abbrev NL:Str:=⟨#[10]⟩
theorem tZ{m:Nat}:∀{parts:List Str},(∀p∈parts,p.length<=m)->(Str.join NL parts).length<=parts.length*(m+1)
 |[],_=>No _|[x],h=>by have:=h x 03;change x.length<=_;simp;lia
 |x::a::r,h=>by
  let b:=tZ λp hp=>h p (M4 _ hp);have:=h x 03;let e:(Str.join NL (x::a::r)).length=x.length+1+(Str.join NL (a::r)).length:=by change(x++NL++Str.join NL (a::r)).length=_;rw[PySem.Str.length_append,PySem.Str.length_append];rfl
  rw[e,NW,QJ];lia
def oM:List PV->Option PV
 |[.tup zs]=>(bL zs).bind λrows=>if rows.length<=8/\(rows.all λz=>decide (z.length<=8))=true then some (.lst ((yi (dW ((rows.map aj).map bi))).map .int))else none|_=>none
end IR
namespace XE
open PySem
abbrev fr(l:List Env):List Addr:=l.filterMap (·.frame)
def AD(h:Heap)(e T:Addr)(cls:Value)(f:Option Addr)(g:Value):Prop :=
 ∃a b c d,h.get? e=some a/\a.cls=cls/\a.dict=f/\a.data=.fields b/\b[1]? =some (.ref T)/\T≠e/\h.get? T=some c/\c.data=.fields d/\d[3]? =some g
structure Up(fs ns:List Addr)(h h' :Heap):Prop where
 keep:∀b o,h.get? b=some o->b∉fs->b∉ns->h'.get? b=some o
 slot:∀b o,h.get? b=some o->b∈fs->∃sl,h'.get? b=some {o with slots:=sl}
open H
def Cp(o:Obj)(f:Array Value->Array Value):(Obj.mapFields f o).dict=o.dict:=by
 unfold Obj.mapFields
 split<;>rfl
section
variable{M:Model}{A:Around}{E:Value->Shared->Prop}{s:Shared}{base:Heap}{env:Env}{outer:List Env}{L e T:Addr}{cls fl:Value}{dd:Option Addr}{Q:Unit->Shared->Prop}{oe:Obj}{vs:Array Value}
def uO{nx:Bool}(r:A.frames=some (c::outer))(u:s.heap.FunFrames base (c::outer))(J:c.frame=some L)(y:s.heap.get? e=some oe)(l:oe.data=.fields vs)(w:1<vs.size)
  (h:∀n T,Up (fr (c::outer)) [e] s.heap n ->s.heap.get? T=none->AD n e T oe.cls oe.dict (rawInt L)->Q () {s with heap:=n}) :
  wpAny M A (do let a<-frameOf c;let pl<-entryPlaceOf L nx;let b<-EntryCells.newEntry d a .none (rawInt L) .none pl;setField (.ref e) 1 b) Q E s:=by
 let C:e∉fr (c::outer):=λm=>by show X_02 (λ_=>X_12 λo x I=> ?_) (u.mem m);rw[y]at x;ext x;show I vs l
 show M1 (wpAny_frameOf_fun r u J λk1 sk=> ?_);show M1 (wpAny_entryPlaceOf λpl isp=> ?_);show M1 (Om ?_ (isp.sizeOk5 _ _ _ _ _));let f:=(sk.2.1 e C).trans y;let v:=Oi (NQ f)
 generalize j:({cls:=.type "traceback",dict:=none,data:=.fields ([d,.ref L,.none,rawInt L,.none]++(if pl.isEmpty then List.replicate 6 Value.none else pl)).toArray}:Obj)=ob
 let i:=M3 ob f;show PF i l w ?_;let g:=OZ l (·.setIfInBounds 1 (Value.ref k1.objs.size));let D:∀b o,b≠e->k1.get? b=some o->((k1.push ob).update e (Obj.mapFields (·.setIfInBounds 1 (Value.ref k1.objs.size)))).get? b=some o:=λb o nb q=>by rw[Nt _ _ (OC nb)];show M3 _ q
 show h _ k1.objs.size ⟨λb o q n1 n2=>D b o (λz=>n2 (by rw[z];show Nb.mpr rfl)) ((sk.2.1 b n1).trans q),λb o q m=> ?_⟩ ?_ ?_
 ·let⟨H,p⟩:=sk.2.2 b o q
  show⟨H,D b _ (λz=>C (by rwa[<- z])) p⟩
 ·cases q:s.heap.get? k1.objs.size with
  |none=>rfl|some o =>let⟨H,p⟩:=sk.2.2 _ o q;show absurd (NQ p) (On _)
 ·show⟨_,_,ob,_,OB _ i (Ox g),Qa _ _,Cp _ _,g,by simp[w],v,?_,by rw[<- j],?_⟩
  ·rw[Nt _ _ (OC v)]
   show NR k1 (by rw[<- j];rfl)
  ·rcases isp with rfl|⟨_,_,_,_,_,_,_,rfl⟩<;>simp
def land(w:AD s.heap e T cls dd fl)(h:∀a,(∀b o,s.heap.get? b=some o->b≠T->a.get? b=some o)->AD a e T cls dd .none->Q () {s with heap:=a}):wpAny M A (setFlight (.ref e) none) Q E s:=by
 show X_41 (λr v C x=>X_09 λm y u l i d g p z=> ?_) w;show M1 (P2 m l i ?_);let j:=(Pa.mp z).1;let c:=OZ p (·.setIfInBounds 3 (none.elim Value.none λf=>rawInt f));show PF g p j (h _ (λb o q n=> ?_) ⟨r,v,_,_,?_,y,u,l,i,d,OB _ g (Ox c),c,by simp[j]⟩)
 ·rw[Nt _ _ (OC n)]
  show q
 ·rw[Nt _ _ d]
  show m
def vY(c:A.frames=some (a::outer))(j:s.heap.FunFrames base (a::outer))(i:a.frame=some L)(f:s.heap.get? e=some oe)(g:oe.data=.fields vs)(d:vs[1]? =some .none)
  (h:∀b T,Up (fr (a::outer)) [e] s.heap b ->s.heap.get? T=none->AD b e T oe.cls oe.dict (rawInt L)->Q () {s with heap:=b}):wpAny M A (noteFrame (.ref e) a) Q E s:=by
 unfold noteFrame;simp only[i];show M1 (P2 f g d ?_);show uO c j i f g (Pa.mp d).1 h
def oV(hfr:A.frames=some (env::outer))(hl:s.heap.FunFrames base (env::outer))(hf:env.frame=some L)(ht:AD s.heap e T cls dd .none)
  (h:∀h' T',Up (fr (env::outer)) [e,T] s.heap h' ->s.heap.get? T' =none->AD h' e T' cls dd (rawInt L)->Q () {s with heap:=h'}):wpAny M A (noteFrame (.ref e) env) Q E s:=by
 show X_41 (λoe vs oT ts=>X_09 λe1 e2 e3 e4 e5 e6 e7 e8 e9=> ?_) ht;unfold noteFrame;simp only[hf];show M1 (P2 e1 e4 e5 ?_);show M1 (P2 e7 e8 e9 ?_);let nf:∀b∈fr (env::outer),b≠T:=λb m z=>by show X_02 (λ_=>X_12 λo ho hn=> ?_) (hl.mem m);rw[z,e7]at ho;ext ho;show hn ts e8
 show M1 (PF e7 e8 (Pa.mp e9).1 ?_);let ot:∀b,b≠T->(s.heap.update T (Obj.mapFields (·.setIfInBounds 3 Value.none))).get? b=s.heap.get? b:=λb n=>Nt _ _ (OC n);show uO hfr (hl.of_keeps λb o q n=>(Y_12 o ?_ rfl)) hf ((ot e (OC e6)).trans e1) e4 (Pa.mp e5).1 λh' T' u n f=> ?_
 ·rw[ot b λz=>by rw[z,e7]at q;ext q;show n ts e8]
  show q
 ·let nT:T' ≠T:=λz=>by
   rw[z,show(Shared.heap {s with heap:=s.heap.update T (Obj.mapFields (·.setIfInBounds 3 Value.none))}).get? T=_ from OB _ e7 (Ox (OZ e8 _))]at n;ext n
  show h h' T' ⟨λb o q n1 n2=>u.keep b o ?_ n1 ?_,λb o q m=>u.slot b o ?_ m⟩ ?_ (by rwa[<- e2,<-e3])
  ·show(ot b λz=>n2 (by rw[z];simp)).trans q
  ·show λz=>n2 (by rw[Nb.mp z];simp)
  ·show(ot b (nf b m)).trans q
  ·show(ot T' nT).symm.trans n
theorem Up.land(u:Up f a h c)(n:h.get? T=none)(k:∀b o,c.get? b=some o->b≠T->d.get? b=some o):Up f a h d := ⟨λb o q n1 n2=>k b o (u.keep b o q n1 n2) (λz=>by rw[z,n]at q;ext q),λb o q m=>by let⟨g,i⟩:=u.slot b o q m;show⟨g,k b _ i (λz=>by rw[z,n]at q;ext q)⟩⟩
def tU(c:A.frames=some (a::outer))(g:s.heap.FunFrames base (a::outer))(l:a.frame=some L)(i:s.heap.get? e=some oe)(j:oe.data=.fields vs)(d:vs[1]? =some .none)
  (h:∀b T,Up (fr (a::outer)) [e] s.heap b ->s.heap.get? T=none->AD b e T oe.cls oe.dict .none->Q () {s with heap:=b}):wpAny M A (leaving a (.ref e)) Q E s:=by
 show M1 (vY c g l i j d λk1 T u n f=> ?_);show land f λk2 k f2=>h k2 T (u.land n k) n f2
def B9(d:A.frames=some (a::outer))(g:s.heap.FunFrames base (a::outer))(j:a.frame=some L)(i:AD s.heap e T cls dd .none)
  (h:∀c b,Up (fr (a::outer)) [e,T] s.heap c ->s.heap.get? b =none->AD c e b cls dd .none->Q () {s with heap:=c}):wpAny M A (leaving a (.ref e)) Q E s:=by
 show M1 (oV d g j i λk1 b u n f=> ?_);show land f λk2 k f2=>h k2 b (u.land n k) n f2
def Ei(d:A.frames=some (a::outer))(g:s.heap.FunFrames base (a::outer))(j:a.frame=some L)(i:AD s.heap e T cls dd .none)
  (h:∀c b,Up (fr (a::outer)) [e,T] s.heap c ->s.heap.get? b =none->AD c e b cls dd .none->Q () {s with heap:=c}) :
  wpAny M A (noteFrame (.ref e) a) (λ_ s2=>wpAny M A (setFlight (.ref e) none) Q E s2) E s:=by
 show oV d g j i λk1 b u n f=> ?_;show land f λk2 k f2=>h k2 b (u.land n k) n f2
end
end XE
namespace XE
open PySem PySem.W PyProof.Rows
structure XC(K:Frag)(C:Addr):Prop where
 ga:findIn K (.ref C) "__getattribute__"=some (some (.builtin "BaseException.__getattribute__"))
 gn:findIn K (.ref C) "__getattr__"=some none
 ca:findIn K (.ref C) "__class__"=some (some (.builtin "object.__class__"))
 sg:specialIn K (.builtin "object.__class__") "__get__"=some (some (.builtin "getset_descriptor.__get__"))
 tk:takesIn K (.builtin "object.__class__")=some true
 ob:mroIn K C (.type "object")=some true
 be:mroIn K C (.type "BaseException")=some true
 cl:(clsIn K C).isSome=true
section
variable{prog:Program}{w:World}{A:Around}{E:Value->Shared->Prop}{s:Shared}{K:Frag}{e C:Addr}{ox:Obj}{od:Option Obj}
open H
def CW(c:XC K C)(X:K.In s.heap)(I:InstAt s.heap e ox C od)(h:Q () s):wpAny M A (checkBuiltinCall "BaseException.__getattribute__" ⟨[.ref e,a],[]⟩) Q E s:=by
 obtain⟨n,g,d,t,l⟩:=s;let m:=I.type (M:=M);let j:=looks_mroIn (M:=M) X c.be;let f:builtinKind "BaseException.__getattribute__"=some .slot:=by decide +kernel
 let b:splitId "BaseException.__getattribute__"=some ("BaseException","__getattribute__"):=by decide +kernel
 simp only[checkBuiltinCall,f,b];show M1 ?_;unfold isInstance
 repeat lk
 show h
end
end XE
namespace L2.XN
open PySem PySem.Spec PyProof.Rows L2 XE
section
variable{P:Program}{w:World}{H H' :Hp}{h h' h2:Heap}{a:Addr}{o:HO}{fs ns:List Addr}
open H
def oS(x:aw P w H h a o):∃u,h.get? a=some u:=by
 cases o with
 |lst d=>show X_02 (λ_=>X_22 λ_ _ _ e=> ?_) x;show⟨_,e⟩
 |tup d=>show X_02 (λ_=>X_12 λ_ _=>X_12 λb e _=> ?_) x;show⟨_,e⟩
 |dK c=>show X_03 (λ_ _=>X_12 λ_ _=>X_32 λb _ _ e _=> ?_) x;show⟨_,e⟩
 |dT c=>show X_03 (λ_ _=>X_12 λ_ _=>X_32 λb _ _ e _=> ?_) x;show⟨_,e⟩
 |set S n=>let⟨b,_,_,_,e,_⟩:=x;show⟨_,e⟩
 |ins C p g=>let⟨_,_,_,e,_⟩:=x;show⟨_,e⟩
 |own y=>show x|xd g=>obtain⟨_,⟨_,_,_,e,_⟩,_⟩:=x;show⟨_,e⟩
 |rng m l=>let⟨_,_,_,e⟩:=x;show⟨_,e⟩
 |frz b u=>let⟨e,_⟩:=x;show⟨_,e⟩
 |tbl i=>show⟨_,(show h.get? a=some _ from x)⟩|met f y=>show⟨_,(show h.get? a=some _ from x)⟩|ext j=>let⟨_,e,_⟩:=x;show e
def t8(c:eO P w H h)(e:h.get? a=none):H a=none:=by
 cases q:H a with
 |none=>rfl|some u =>let⟨v,b⟩:=oS (c a u q);rw[e]at b;ext b
theorem qM(f:eO P w H h)(u:Up fs ns h h')(d:∀b∈fs,H b=none)(c:∀b∈ns,H b=none):eO P w H h' :=λa o e =>
 (f a o e).stay (λb v hb q=>u.keep b v q (λz=>by
  rcases hb with r|r
  ·rw[r]at z;rw[d _ z]at e;ext e
  ·rw[d _ z]at r;ext r) λz=>by
  rcases hb with r|r
  ·rw[r]at z;rw[c _ z]at e;ext e
  ·rw[c _ z]at r;ext r) (λ_ q=>q) λ_ _ q=>q
def GI(u:Un fs [] l H d j)(p:Up (L::fs) ns j h2)(s:d.objs.size<=L)(m:∀b∈ns,d.get? b=none):Un fs [] l H d h2:=by
 let x:∀b o,d.get? b=some o->b≠L:=λb o q z=>absurd (NQ q) (by rw[z];show Nat.not_lt.mpr s);let i:∀b o,d.get? b=some o->b∉ns:=λb o q z=>by rw[m b z]at q;ext q
 show⟨λb o q n c hx=>p.keep b o (u.keep b o q n c hx) (λz=> ?_) (i b o q),λb o q n c hx=> ?_,u.free,λb o q hx=> ?_,u.tups,u.frzs,u.tbls⟩
 ·rcases NH.mp z with r|r
  ·show x b o q r
  ·show c r
 ·let⟨v,e⟩:=u.slot b o q n c hx
  let⟨f,g⟩:=p.slot b _ e (M4 _ c);show⟨f,g⟩
 ·let⟨y,e⟩:=u.there b o q hx
  by_cases c:b∈L::fs
  ·let⟨v,g⟩:=p.slot b _ e c
   show⟨_,g⟩
  ·show⟨_,p.keep b _ e c (i b o q)⟩
end
def GF(P:Program)(w:World)(C:Addr):wJ:=λouter H s E u s' =>
 ∃e T a b,u=.ref e/\s'.os=s.os/\AllBare s'.gens/\Un (uo outer) [] H a s.heap s'.heap/\eO P w a s'.heap/\s.heap.get? e=none/\s.heap.get? T=none/\a e=none/\a T=none /\ AD s'.heap e T (.ref C) b .none/\E (.ref C) b a
section
variable{P:Program}{w:World}{K:W.Frag}{mg:Str->Option Value}{base:Heap}{N:List Str}{qual:Str}{scope:Scope}{f C:Addr}{cd:Value}{A:Around}{outer:List Env}{s s1:Shared}{H H1:Hp}{E:XK}
 {pins:List (Addr×Obj)} {σ:St}
open H
def Eb(W:∀c p,n (.ref C) c p ->E (.ref C) c p):qu (GF P w C) (iC (GF P w C) P w K mg base N qual scope f cd A outer s H E) n:=by
 intro a v Y Q u M I zm;show X_41 (λe T d c=>X_09 λX O L x U i S l=>X_03 λR g q=> ?_) zm;subst X;let J:=I.call' O x U L (λb z=>absurd z 03);let h:∀b,Q.heap.get? b=none->s.heap.get? b=none:=λb z=>by
  cases q:s.heap.get? b with
  |none=>rfl|some o =>let⟨D,y⟩:=I.base.there b o q (Nk);rw[z]at y;ext y
 let j:∀b∈[e,T],s.heap.get? b=none/\d b=none:=λb m=>by
  rcases NH.mp m with r|r
  ·rw[r];show⟨h _ i,l⟩
  ·rw[Nb.mp r];show⟨h _ S,R⟩
 show B9 J.ok.frames J.stack rfl g λh2 T' up hT fly' => ?_;show⟨e,T',d,c,rfl,J.os,J.bare,GI J.base up J.ok.above (λb m=>(j b m).1),qM J.hok up J.stkFree (λb m=>(j b m).2),h _ i,?_,l,?_,fly',W _ _ q⟩
 ·cases q:s.heap.get? T' with
  |none=>rfl|some o =>let⟨D,z⟩:=J.base.there T' o q (Nk);rw[hT]at z;ext z
 ·show t8 J.hok hT
end
end L2.XN
namespace L2.XN
open PySem PySem.Spec PyProof.Rows L2 XE
section
variable{X:Cx}{pins:List (Addr×Obj)}{σ:St}{H:Hp}{s:Shared}{Wh:Value->Shared->Prop}{A:Around}{cm:Bool}
abbrev BO(X:Cx)(pn:List (Addr×Obj))(a:Value->Shared->Prop):Cx:={X with pn:=pn,xe:=a}
abbrev FG(X:Cx)(e:Addr)(pn:List (Addr×Obj)):Cx:={X with A:=X.A.mark (some (.ref e)),calm:=false,pn:=pn,xe:=λ_ _=>False}
open H
theorem pinned(I:Inv X pins σ H s):Inv (BO X (X.pn++pins) Wh) [] σ H s := ⟨⟨I.ok.mod,I.ok.kind,I.ok.glob,I.ok.blt,I.ok.above,I.ok.inj,I.ok.has,I.ok.cab,I.ok.hd,I.ok.frames,I.ok.stk,I.ok.exf,I.ok.bs,I.ok.bsz,I.ok.noex,I.ok.exfs,I.ok.funs,I.ok.frf⟩,I.os,I.bare,I.base,I.loc,I.cell,I.free,I.freeC,λp hp=>I.pin p (by rwa[OK]at hp),I.hok,I.len⟩
theorem unpinned(a:X.Ok)(I:Inv (BO X (X.pn++pins) Wh) b σ H s):Inv X pins σ H s := ⟨a,I.os,I.bare,I.base,I.loc,I.cell,I.free,I.freeC,λp hp=>I.pin p (Ni _ hp),I.hok,I.len⟩
theorem Lf(I:Inv X pins σ H s){pn:List (Addr×Obj)}(a:∀p∈pn,s.heap.get? p.1=some p.2/\H p.1=none/\p.1≠X.env.locals/\p.1∉X.fs/\∀v,p.2.data≠.cell v):Inv (FG X e pn) [] σ H s := ⟨⟨I.ok.mod,I.ok.kind,I.ok.glob,I.ok.blt,I.ok.above,I.ok.inj,I.ok.has,I.ok.cab,(λz=>by ext z),I.ok.frames,I.ok.stk,I.ok.exf,I.ok.bs,I.ok.bsz,I.ok.noex,I.ok.exfs,I.ok.funs,I.ok.frf⟩,I.os,I.bare,I.base,I.loc,I.cell,I.free,I.freeC,λp m=>a p (by rwa[OK]at m),I.hok,I.len⟩
theorem LK(a:X.Ok){pn:List (Addr×Obj)}(I:Inv (FG X e pn) [] σ H s)(b:∀p∈X.pn++pins,p∈pn):Inv X pins σ H s := ⟨a,I.os,I.bare,I.base,I.loc,I.cell,I.free,I.freeC,λp m=>I.pin p (Ni _ (b p m)),I.hok,I.len⟩
def Jb{A:Around}{v:V}(I:Inv X pins σ H s)(W:X.N.Nodup)(C:X.N[i]? =some x)(f:X.env.scope.names.lookup x=some .local)(R:σ[i]? =some (some v))
  (h:∀O,Inv X pins (σ.set i none) H O ->Q () O):wpAny M A (unbindName X.env x) Q E s:=by
 let⟨m,K,D⟩:=id I.loc;obtain⟨u,-,l⟩:=D i x v C R (.inl f);let hm:m x=some u:=by
  rcases l with l|⟨k,_⟩
  ·show l.2
  ·let J :X.env.scope.names.lookup x=some .cell\/X.env.scope.names.lookup x=some .free:=k
   rw[f]at J
   rcases J with z|z<;>ext z
 let⟨oL,_,_,Y,_⟩:=id K;show wpAny_unbindName_local f K hm (by rw[I.ok.kind];rfl) λh' u' hn' hs=> ?_;let g:∀b o,X.s₀.heap.get? b=some o->b≠X.env.locals:=λb o e=>Na (Nq (NQ e) I.ok.above)
 show h _ ⟨I.ok,I.os,I.bare,⟨λb o e n hb hx=>(hs.2 b (g b o e)).trans (I.base.keep b o e n hb hx),λb o e n hb hx=> ?_,I.base.free,λb o e hx=> ?_,I.base.tups,I.base.frzs,I.base.tbls⟩,Y_12 _ hn' (λj y v' e1 e2 e3=> ?_),λy c e=> ?_,I.free,I.freeC,λp hp=> ?_,λb ob e=> ?_,by simpa using I.len⟩
 ·let⟨Z,q⟩:=I.base.slot b o e n hb hx
  show⟨Z,(hs.2 b (g b o e)).trans q⟩
 ·let⟨S,q⟩:=I.base.there b o e hx
  show⟨S,(hs.2 b (g b o e)).trans q⟩
 ·by_cases w:j=i
  ·subst w
   rw[OI (by rw[I.len];show(NC.mp C).1)]at e2;ext e2
  ·rw[N5 (OC w)]at e2
   let⟨a,T,q⟩:=D j y v' e1 e2 e3;exists a,T,?_
   rcases q with⟨k,q⟩|⟨k,c,q,z⟩
   ·let ny:y≠x:=λz=>w (jn W e1 (z▸C))
    show .inl ⟨k,by simp[ny,q]⟩
   ·show .inr ⟨k,Y_12 c q (z.sameBut hs (I.cne y c q))⟩
 ·let⟨a,z⟩:=I.cell y c e
  show⟨a,z.sameBut hs (I.cne y c e)⟩
 ·let⟨q,n,L,U,d⟩:=I.pin p hp
  show⟨(hs.2 p.1 L).trans q,n,L,U,d⟩
 ·show(I.hok b ob e).stay (λc a hc q=>(hs.2 c λz=> ?_).trans q) (λ_ q=>q) λ_ _ q=>q
  rcases hc with r|r
  ·rw[r]at z;rw[z,I.free]at e;ext e
  ·rw[z,I.free]at r;ext r
def DU(d:wJ)(X:Cx)(E:St->XK):Prop:=∀(a:List (Addr×Obj))(b:St)(H:Hp)(s:Shared)(u:Value)(c :Shared),Inv X a b H s->d X.stack H s (E b) u c ->X.xe u c
def HN(b:Sp)(a:List V)(E:St->XK)(t:TA):TE:=λσ H Q=>t σ H λvs H1=>b (vs++a) H1 Q (E σ)
def BW{k:Nat}{o:Sp}{t:TA}(F:bI X.prog X.w X.K X.mg X.base n k f v j o)(S:ck k X.A)(L:Gl X x)
  (O:X.mg x=some (.ref f)) (D:W.keepIn X.K (.ref f)=true) (J:Binds X.K v j d) (z:aQ a d) (M:DU n X E) (R:PA X (e::c) t) (l:(x==("__debug__":Str))=false:=by decide)
  (N:starEach (e::c) X.env=(false,eval e X.env)::starEach c X.env:=by rfl) (i:(backTo pos (starEach c X.env)).any (·.1)=false:=by rfl):PE X (.Call (.Name x p) (e::c) [] pos) (HN o a E t):=by
 intro b s g H Q I h;show P1 (jr I L O ?_ l);show W.callWith_K I.ok.mod.kin D (ar (R pos b s g H _ I h) λus s1 ⟨vs,H1,I1,r,q⟩=>⟨I1.kIn,?_⟩) N i;let m:=r.append z;let y:(us++d).length=j.length:=by rw[<- m.length];show F.len _ _ _ _ q
 show wpAny_call (QB (F.run X.A X.stack s1 H1 ⟨us,[]⟩ (us++d) (vs++a) Q (E g) S I1.env0 (J s1 us I1.kIn y) m q) λr s' hq=> ?_);cases r with
 |error u=>show M b g H1 s1 u s' I1 hq|ok C =>
  cases C with
  |ret u=>show I1.after hq|next=>show hq.elim|brk=>show hq.elim|cont=>show hq.elim
def AQ{m:Heap}(u:Un d [] j H e l)(p:Up d g l m)(r:∀b∈g,e.get? b=none):Un d [] j H e m:=by
 let i:∀b o,e.get? b=some o->b∉g:=λb o q z=>by rw[r b z]at q;ext q
 show⟨λb o q n a hx=>p.keep b o (u.keep b o q n a hx) a (i b o q),λb o q n a hx=> ?_,u.free,λb o q hx=> ?_,u.tups,u.frzs,u.tbls⟩
 ·let⟨v,c⟩:=u.slot b o q n a hx
  let⟨f,h⟩:=p.slot b _ c a;show⟨f,h⟩
 ·let⟨w,c⟩:=u.there b o q hx
  by_cases a:b∈d
  ·let⟨v,h⟩:=p.slot b _ c a
   show⟨_,h⟩
  ·show⟨_,p.keep b _ c a (i b o q)⟩
def DJ(i:Nat)(D:dX):dX:={nx:=λσ H=>D.nx (σ.set i none) H,rt:=D.rt,bk:=λσ H=>D.bk (σ.set i none) H,ct:=λσ H=>D.ct (σ.set i none) H}
end
end L2.XN
namespace L2.XN
open PySem PySem.Spec PyProof.Rows L2 XE
structure Mq(K:W.Frag)(mg:Str->Option Value)(x:Str)(C:Addr):Prop where
 nm:mg x=some (.ref C)
 cl:(W.clsIn K C).isSome=true
 ty:W.typeIn K (.ref C)=some (.type "type")
section
variable{K:W.Frag}{mg:Str->Option Value}{x:Str}{C D:Addr}{b:Bool}
open H
def Mq.kcls(k:Mq K mg x D)(h:W.subIn K (.ref C) (.ref D)=some b):W.kitCls K (.ref C) (.ref D)=some b:=by change(if((W.clsIn K D).isSome&&W.typeIn K (.ref D)==some (.type "type"))=true then W.subIn K (.ref C) (.ref D)else none)=some b;rwa[M9 (by rw[k.cl,k.ty];rfl)]
def Mq.exm(k:Mq K mg x D)(h:W.subIn K (.ref C) (.ref D)=some b)(a:W.subIn K (.ref D) (.type "BaseException")=some true):W.exmOne K (.ref C) (.ref D)=some b:=by unfold W.exmOne;rw[M9 (by rw[a];rfl)];show k.kcls h
end
end L2.XN
namespace XE
open PySem
section
variable{M:Model}{A:Around}{E:Value->Shared->Prop}{h:Heap}{g:Array GenState}{d:Drawn}{t:Nat}{os:OsState}
variable{nm q:Str}{C N:Addr}{bs bm bmB:List Value}{hdct:Bool}{sn:List Str}{sub:List Value}{ab:Bool}{col:Option Bool}{dd:Option Addr}{k0 k1 k2 k3 k5:Option Value}{B Bn newId nid initId inN:String}{bmN:List Value}
open H
def v7(c:ExcBaseFacts Bn newId inN bmN)(f:bmB.contains (.type Bn)=true)(T:OwnTail h bmB bm)(b:h.get? C=some (excClassObj nm q C N bs bm hdct sn sub ab col dd k0 k1 k2 k3 k5 newId))
  (l:Q () ⟨h,g,d,t,os⟩):wpAny M A (checkBuiltinCall newId ⟨.ref C::i,j⟩) Q E ⟨h,g,d,t,os⟩:=by
 let a:(Value.ref C::bm).contains (.type Bn)=true:=by rw[OT,T.hasType f,QM]
 let e:=c.noStar;simp only[checkBuiltinCall,c.newKind,c.newSplit,c.newRow]
 repeat(first|show O3 b ?_|(show QR b ?_;rw[a])|show wpAny_staticBase_exc b ?_|show wpAny_madeBy_exc b ?_|simp only[bne_self_eq_false,Po,Ps]|wp_step)
 show l
end
section
variable{prog:Program}{w:World}{A:Around}{R:Result->Shared->Prop}{h:Heap}{g:Array GenState}{d:Drawn}{t:Nat}{os:OsState}
variable{nm q:Str}{C N:Addr}{bs bm bmB:List Value}{hdct:Bool}{sn:List Str}{sub:List Value}{ab:Bool}{col:Option Bool}{dd:Option Addr}{k0 k1 k2 k3 k5:Option Value}{B Bn newId nid initId inN:String}{bmN:List Value}
open H
def Ce(a:ExcBaseFacts Bn newId inN bmN)(l:bmB.contains (.type Bn)=true)(F:ExcBaseFacts B nid initId bmB)(T:OwnTail h bmB bm){m:List Value}(b:h.get? C=some (excClassObj nm q C N bs bm hdct sn sub ab col dd k0 k1 k2 k3 k5 newId))
  (o:R (.ok (.ret (.ref (h.objs.size+1)))) ⟨(h.push {cls:=.type "tuple",data:=.seq m.toArray}).push {cls:=.ref C,data:=.fields #[.ref h.objs.size,.none,.none,.none,.bool false,.none]},g,d,t,os⟩) (f:m.length<=sizeLine:=by size_fits) :
  codeAny (model prog w) A (.builtin newId ⟨.ref C::m,n⟩) R ⟨h,g,d,t,os⟩:=by
 let j:=a.ends;let e:(Value.ref C::bm).contains (.type Bn)=true:=by rw[OT,T.hasType l,QM]
 let c:(Value.ref C::bm).contains (.type "AttributeError")=false:=by rw[OT,T.hasType F.noAttr];rfl
 let i:(Value.ref C::bm).contains (.type "NameError")=false:=by rw[OT,T.hasType F.noName];rfl
 show codeAny_builtinAt a.entry ?_;unfold Builtin.«BaseException.__new__»;show wpAt_bind ?_;change wpAt _ _ _ (stack >>= _) _ _ _;show wpAt_bind (wpAt_stack λp below=>wpAt_of_wpAny ?_)
 wp_walk
 show wpAt_of_wpAny ?_;rw[a.owner]
 repeat(first|with_reducible show wpAny_madeHere_exc a.canon b ?_|with_reducible show O3 b ?_|(with_reducible show QR b ?_;first|rw[e]|rw[c]|rw[i])|wp_step)
 change R _ _;rw[Of];show o
end
section
variable{prog:Program}{w:World}{A:Around}{E:Value->Shared->Prop}{h:Heap}{g:Array GenState}{d:Drawn}{t:Nat}{os:OsState}
variable{nm q:Str}{C N:Addr}{bs bm bmB:List Value}{hdct:Bool}{sn:List Str}{sub:List Value}{ab:Bool}{col:Option Bool}{dd:Option Addr}{k0 k1 k2 k3 k5:Option Value}{B Bn newId nid initId inN:String}{bmN:List Value}
open H
def uy(n:ExcBaseFacts Bn newId inN bmN)(m:bmB.contains (.type Bn)=true)(F:ExcBaseFacts B nid initId bmB)(T:OwnTail h bmB bm)
  (j:h.get? C=some (excClassObj nm q C N bs bm hdct sn sub ab col dd k0 k1 k2 k3 k5 newId)) (J:h.Ns N v) (K:v "__init__"=some (.ref y)) (p:h.get? y=some H) (u:H.cls=.type "function")
  (I:∀s e,h.objs.size<=e->Heap.MadeExcOf h s e (.ref C) b->wpAny (model prog w) A (call (.ref y) (.ref e::b) D) (λr s' =>r=.none/\Q (.done (.ret (.ref e))) s') E ⟨s,g,d,t,os⟩) (hrest:b.length<=sizeLine:=by size_fits) :
  wpAny (model prog w) A (Builtin.«type.__call__» ⟨.ref C::b,D⟩) Q E ⟨h,g,d,t,os⟩:=by
 repeat(first|with_reducible show O3 j ?_|with_reducible show wpAny_madeBy_exc j ?_|wp_step)
 show codeAny_call_builtin_code (Code.quiet_builtin _ n.quiet) (v7 n m T j ?_);show Ce n m F T j ?_ hrest;change wpAny _ _ _ _ _ _
 let a:=M3 {cls:=.ref C,data:=.fields #[.ref h.objs.size,.none,.none,.none,.bool false,.none]}
  (M3 {cls:=.type "tuple",data:=.seq b.toArray} j)
 let c:=M3 {cls:=.ref C,data:=.fields #[.ref h.objs.size,.none,.none,.none,.bool false,.none]}
  (M3 {cls:=.type "tuple",data:=.seq b.toArray} p)
 let i:((h.push {cls:=.type "tuple",data:=.seq b.toArray}).push {cls:=.ref C,data:=.fields #[.ref h.objs.size,.none,.none,.none,.bool false,.none]}).Ns N v :=
  let⟨o,es,ep,e,r⟩:=J;⟨o,es,ep,M3 _ (M3 _ e),r⟩
 let f:((h.push {cls:=.type "tuple",data:=.seq b.toArray}).push {cls:=.ref C,data:=.fields #[.ref h.objs.size,.none,.none,.none,.bool false,.none]}).get? (h.objs.size+1)=some
   {cls:=.ref C,data:=.fields #[.ref h.objs.size,.none,.none,.none,.bool false,.none]}:=by heap_get
 let z:(Value.ref C::bm).contains (.ref C)=true:=by simp
 let l:=T.keeps (h' :=(h.push {cls:=.type "tuple",data:=.seq b.toArray}).push {cls:=.ref C,data:=.fields #[.ref h.objs.size,.none,.none,.none,.bool false,.none]})
  λb o e=>M3 _ (M3 _ e)
 repeat(first|with_reducible show O3 f ?_|(with_reducible show QR a ?_;rw[z])|wp_step)
 show wpAny_typeLookup_tail a i l F.mroIs F.init.lookup ?_;rw[K];show OP (M1 ?_);show M1 (wpAny_typeOf ⟨_,c,u⟩ ?_);show NK (M1 (OR (I _ (h.objs.size+1) (PY _) ⟨λb o hb=>M3 _ (M3 _ hb),QN (PY _),h.objs.size,f,QN (NB _),?_⟩) (λr s' hr=> ?_) λ_ _ x=>x))
 ·show M3 _ (Heap.get?_push_at rfl rfl)
 ·let⟨rfl,L⟩:=hr
  wp_walk
  show L
def ze(Fn:ExcBaseFacts Bn newId inN bmN)(hBn:bmB.contains (.type Bn)=true)(F:ExcBaseFacts B nid initId bmB)(T:OwnTail h bmB bm){aJ:List Value}
  (hC:h.get? C=some (excClassObj nm q C N bs bm hdct sn sub ab col dd k0 k1 k2 k3 k5 newId)) (hn:h.Ns N mN) (hi:mN "__init__"=some (.ref fI)) (hfI:h.get? fI=some oI) (hfc:oI.cls=.type "function")
  (hq:∀h' e,h.objs.size<=e->Heap.MadeExcOf h h' e (.ref C) aJ->wpAny (model prog w) (A.under (.builtin "type.__call__" ⟨.ref C::aJ,kw⟩)) (call (.ref fI) (.ref e::aJ) kw) (λr s' =>r=.none/\Q (.ref e) s') E ⟨h',g,d,t,os⟩) (hrest:aJ.length<=sizeLine:=by size_fits) :
  wpAny (model prog w) A (call (.ref C) aJ kw) Q E ⟨h,g,d,t,os⟩:=by
 let f1:=tc_lookup;let f2:=tc_bind (.ref C);let hT:(⟨h,g,d,t,os⟩:Shared).TypeIs (.ref C) "type":=⟨_,hC,rfl⟩;show wpAny_call (codeAny_of_tree ?_);change wpAny _ _ (callAny (.ref C) _) _ _ _
 repeat(any_goals (first|assumption|with_reducible show O3 hC ?_|wp_step))
 show⟨rfl,?_⟩;let typ:W.Looks (model prog w) h (isInstance (.ref C) (.type "type")) true:=((W.Looks.ld hC).andThen .now).andThen (W.Looks.of_pure tc_sub);show codeAny_call_builtin_at (Code.quiet_builtin _ 01) entry_typeCall (W.check_slot tc_kind tc_split typ (W.tc_args _ _ _) (uy (hrest:=hrest) Fn hBn F T hC hn hi hfI hfc λh' e hz hm=> ?_));show hq h' e hz hm
end
open H
def rg(T:OwnTail h b c)(e:refuseLoop a "__setattr__" b=pure ()):refuseLoop a "__setattr__" c=pure ():=by
 induction T with
 |base=>show e|own _ _ _ _ d=>rwa[refuseLoop_ref]
section
open PySem.W Builtin Builtin.ObjectAttr
variable{prog:Program}{w:World}{A:Around}{E:Value->Shared->Prop}{s:Shared}{K:Frag}{x C:Addr}{name:Str}{v:Value}{cd:ClassData}{o:Obj}
def setx(X:K.In s.heap)(hx:s.heap.get? x=some o)(hcl:o.cls=.ref C)(hdn:o.dict=none)(hfd:∃vs,o.data=.fields vs)(hs:findIn K (.ref C) "__setattr__"=some (some (.builtin "object.__setattr__")))
  (hc:clsIn K C=some cd) (hd:cd.hasDict=true) (hob:mroIn K C (.type "object")=some true) (hp:refuseLoop (.ref x) "__setattr__" cd.mro=pure ()) (ht:takerIn K C name=some none)
  (h:∀h' d tk,s.heap.objs.size<=d->h'.get? x=some {o with dict:=some d}->h'.Ns1 d (λy=>if y=name then some v else none)->(∀b ob,b≠x->s.heap.get? b=some ob->h'.get? b=some ob)->Q () {s with heap:=h',toks:=tk}) :
  wpAny (model prog w) A (setAttr (.ref x) name v) Q E s:=by
 let⟨vs,hvs⟩:=hfd;let I:InstAt s.heap x o C none:=⟨hx,hcl,by unfold notCls;rw[hvs],by rw[hdn];trivial⟩;show set_plain X I hs ?_;let SF:=PySem.F.store_object;let sub:Looks (model prog w) s.heap (isInstance (.ref x) (.type "object")) true:=I.type.andThen (looks_mroIn X hob);show codeAny_call_builtin SF.slot.plain SF.entry (@check_slot (model prog w) _ _ {s with toks:=s.toks+1} "object.__setattr__" "object" "__setattr__" (.ref x) [.str name s.toks,v] [] _ SF.kind SF.split sub (SF.args (.ref x) (.str name s.toks) v) ?_);let⟨attr,ha,hr⟩:=Option.bind_eq_some_iff.mp ht;let hm:Looks (model prog w) s.heap (mroOf (.ref C)) cd.mro:=(looks_clsIn X hc).andThen .now;let L3:Looks (model prog w) s.heap (storeTaker? attr) none:=by
  cases attr with
  |none=>show .now|some a =>
   let⟨b,hb,hb2⟩:=Option.map_eq_some_iff.mp hr;show(looks_takesIn X hb).andThen ?_;ext b
   ·show .now
   ·ext hb2
 rw[osa_eq,refuse_eq];show M1 (M1 (I.type.here (s:={s with toks:=s.toks+1}) (M1 (hm.here (s:={s with toks:=s.toks+1}) ?_))));rw[hp];show NK (M1 (I.type.here (s:={s with toks:=s.toks+1}) (M1 ((looks_findIn X ha).here (s:={s with toks:=s.toks+1}) (M1 (L3.here (s:={s with toks:=s.toks+1}) ?_))))));obtain⟨oc,odi,oda,osl⟩:=o;subst hcl hdn hvs;show M1 (NK (M1 (M1 (wpAny_loadPart hx (M1 (Looks.here (looks_clsIn X hc) ?_))))));rw[hd];let hx₁:(s.heap.push {cls:=.type "dict",data:=.dict #[]}).get? x=some ⟨.ref C,none,.fields vs,osl⟩:=M3 _ hx;let hxs:=Na (NQ hx);show M1 (wpAny_alloc ?_);show M1 (wpAny_update hx₁ ?_);show NK ?_
 let hgd:((s.heap.push {cls:=.type "dict",data:=.dict #[]}).update x λo=>{cls:=o.cls,dict:=some s.heap.objs.size,data:=o.data,slots:=o.slots}).get? s.heap.objs.size
   = some {cls:=.type "dict",data:=.dict #[]} :=
  (Heap.get?_update_ne _ _ _ _ hxs.symm).trans (Heap.get?_push_at rfl rfl)
 let hnd:((s.heap.push {cls:=.type "dict",data:=.dict #[]}).update x λo=>{cls:=o.cls,dict:=some s.heap.objs.size,data:=o.data,slots:=o.slots}).Ns s.heap.objs.size (λ_=>none) :=
  ⟨_,#[],_,hgd,rfl,λe he=>absurd he 03,λ_=>rfl⟩
 show M1 (NK (M1 (wpAny_nsSet1 (Heap.Ns1.of_empty hnd) λh' hn' hs=> ?_)));let⟨oD,esD,epD,hoD,hdD,hcD⟩:=hn'.count (Within.cons name v Within.nil);show M1 (wpAny_lookBehind hoD (by rw[hdD];show pastItsLine_dict (Nd hcD (by rw[NW,List.length_nil,N4];lia))) ?_);show NK (h h' s.heap.objs.size _ (NB _) ?_ hn' λb ob hbx hb=> ?_)
 ·show(hs.2 x hxs).trans (OB _ hx₁ rfl)
 ·show(hs.2 b (Na (NQ hb))).trans ((Heap.get?_update_ne _ _ _ _ hbx).trans (M3 _ hb))
end
end XE
namespace XE
open PySem PySem.W PyProof.Rows
section
variable{prog:Program}{w:World}{A:Around}{E:Value->Shared->Prop}{s:Shared}{K:Frag}{e C:Addr}{ox:Obj}{od:Option Obj}{name:Str}{v:Value}
open H
def Ll(c:XC K C)(X:K.In s.heap)(I:InstAt s.heap e ox C od)(j:findObj K C od name=some (.value v))(m:handedIn v=true)(h:Q v {s with toks:=s.toks+1}) :
  wpAny (model prog w) A (getAttr (.ref e) name a) Q E s:=by
 obtain⟨p,g,d,t,o⟩:=s;let f:=I.type (M:=model prog w);show M1 (wpAny_mkText (OP (M1 (f.at (M1 ((looks_findIn (M:=model prog w) X c.ga).at ?_))))));show M1 ?_;show (looks_findIn (M:=model prog w) X c.gn).at ?_;show M1 (wpAny_attempt (OP ?_));rw[show∀b,callGetattribute (.ref e) b (.builtin "BaseException.__getattribute__") a=boundAndCalled (.builtin "BaseException.__getattribute__") (.ref e) b from λnv=>by ext a<;>rfl];show M1 (NK ?_);show wpAny_call (codeAny_call_builtin F.attr_ValueError.ga.plain F.entry_bexc_ga (CW c X I ?_));show M1 (NK ?_);show M1 (NK ?_);show M1 (f.at ?_);show M1 ((looks_find (M:=model prog w) X I j).at ?_);show NK ?_;change wpAny _ _ (handedOut v) _ _ _;rw[handedOut_of m];show NK h
end
end XE
namespace L2.XN
open PySem PySem.Spec PyProof.Rows L2 XE
def XN(C:Addr)(a:Option Addr)(e:Addr):HO:=.ext λh=>∃t,h.get? e=some {cls:=.ref C,dict:=a,data:=.fields #[.ref t,.none,.none,.none,.bool false,.none]}
def XO(C:Addr)(a:Option Addr)(e:Addr):HO:=.ext λh=>∃o b,h.get? e=some o/\o.cls=.ref C/\o.dict=a/\o.data=.fields b
def KM(H:Hp)(C:Addr)(a:Option Addr)(e:Addr):Prop:=H e=some (XN C a e)\/H e=some (XO C a e)
def yw(H:Hp)(e:Addr):Hp:=λb=>if b=e then none else H b
section
variable{P:Program}{w:World}{H H1 H2:Hp}{h h2:Heap}{e C:Addr}{dd:Option Addr}{o:HO}{fs ex:List Addr}
theorem GG{t:Addr}(q:h.get? e=some {cls:=.ref C,dict:=dd,data:=.fields #[.ref t,.none,.none,.none,.bool false,.none]}):aw P w H h e (XN C dd e) := ⟨⟨t,q⟩,⟨_,q⟩,λ_ _ ⟨t,z⟩ k=>⟨t,k _ z⟩⟩
theorem Kc(q:h.get? e=some a)(f:a.cls=.ref C)(c:a.dict=dd)(d:a.data=.fields b):aw P w H h e (XO C dd e) := ⟨⟨a,b,q,f,c,d⟩,⟨_,q⟩,λ_ _ ⟨a,b,z,z1,z2,z3⟩ k=>⟨a,b,k _ z,z1,z2,z3⟩⟩
open H
def KM.at(x:KM H C dd e)(c:eO P w H h):∃a b,h.get? e=some a/\a.cls=.ref C/\a.dict=dd/\a.data=.fields b:=by
 rcases x with x|x
 ·obtain⟨⟨t,q⟩,_⟩:=c e _ x
  exists _,_,q,rfl,rfl,rfl
 ·obtain⟨⟨a,b,q,g,d,f⟩,_⟩:=c e _ x
  exists a,b,q,g,d,f
theorem KM.mono(x:KM H C dd e)(s:∀b o,H b=some o->H1 b=some o):KM H1 C dd e:=x.imp (s _ _) (s _ _)
theorem oo(d:eO P w H h)(n:H e=none)(a:aw P w (upd H e o) h e o):eO P w (upd H e o) h:=λb u q=>by
 by_cases c:b=e;subst c;rw[aB]at q;ext q;show a
 ·rw[aA c]at q
  show(d b u q).stay (λ_ _ _ z=>z) (λc z=>by rwa[aA (aE z n)]) λc xs z=>by rwa[aA (aE z n)]
theorem rW(u:Un fs ex H H1 h h2)(n:h.get? e=none)(a:H1 e=none):Un fs ex H (upd H1 e o) h h2 := ⟨u.keep,u.slot,λb ob q z hx=>by rw[aA (λy=>by rw[y,n]at q;ext q)];show u.free b ob q z hx,u.there,λb xs z=>by rw[aA (aE (u.tups b xs z) a)];show u.tups b xs z,λb ob v z=>by rw[aA (aE (u.frzs b ob v z) a)];show u.frzs b ob v z,λb ps z=>by let⟨m,y⟩:=u.tbls b ps z;show⟨m,by rwa[aA (aE y a)]⟩⟩
def eD(h:b≠e):yw H e b=H b:=by unfold yw;rw[NJ h]
def eo:yw H e e=none:=by unfold yw;rw[M9 rfl]
theorem FH(f:eO P w H h)(a:H e=some (.ext d)):eO P w (yw H e) h:=λb u q=>by
 let c:b≠e:=λz=>by rw[z,eo]at q;ext q
 rw[eD c]at q;show(f b u q).stay (λ_ _ _ z=>z) (λc z=>by rwa[eD (λy=>by rw[y,a]at z;ext z)]) λc xs z=>by rwa[eD (λy=>by rw[y,a]at z;ext z)]
theorem G6(u:Un fs ex H H1 h h2)(a:H1 e=some (.ext d)):Un fs ex H (yw H1 e) h h2 :=
 ⟨u.keep,u.slot,λb ob q z hx=>by
  by_cases c:b=e;rw[c,eo]
  ·rw[eD c];show u.free b ob q z hx,u.there,λb xs z=>by rw[eD (λy=>by have:=u.tups b xs z;rw[y,a]at this;ext this)];show u.tups b xs z,λb ob v z=>by rw[eD (λy=>by have:=u.frzs b ob v z;rw[y,a]at this;ext this)];show u.frzs b ob v z,λb ps z=>by let⟨m,y⟩:=u.tbls b ps z;show⟨m,by rwa[eD (λx=>by rw[x,a]at y;ext y)]⟩⟩
end
def vX{K:W.Frag}(X:K.In h)(G:h.Ns N a)(e:W.nsIn K N n=some (some v)):a n=some v:=by
 let⟨o,l,m,f,b,_,j⟩:=G;unfold W.nsIn at e
 split at e
 ·rename_i c d i p r q
  have:=X _ _ q;rw[f]at this;ext this;ext b
  split at e
  ·rename_i s g
   ext e;rw[<- j];unfold nsFind findBy;rw[<- Array.find?_toList,g];rfl
  ·split at e<;>ext e
 ·ext e
def pw{K:W.Frag}(X:K.In h)(q:excInI K C y=true):∃b N J U I c R g H i u v m p o A w,h.get? C=some (excClassObj J U C N I b c R g H i u v m p o A "ValueError.__new__")/\h.Ns N w/\w "__init__"=some (.ref y)/\OwnTail h bmV b /\ ∀e,W.clsIn K C=some e->e.mro=.ref C::b:=by
 unfold excInI at q
 split at q
 case h_2=>ext q
 rename_i u e S a
 split at q
 case h_2=>ext q
 rename_i r b v m p o n A j x;simp only[M8,Og,Bool.not_eq_true']at q;obtain⟨⟨⟨⟨⟨O,Q⟩,D⟩,L⟩,f⟩,s⟩:=q;subst O Q;let E:∀d,W.clsIn K r=some d ->d.mro=.ref r::b:=λcd' z=>by unfold W.clsIn at z;rw[a]at z;ext z;show j
 obtain⟨c1,Z,c3,Y,c5,c6,c7,c8,c9,T,M⟩:=e;subst j D;obtain⟨l⟩:=S;subst x;show⟨b,_,_,_,_,_,_,_,_,_,_,_,_,_,_,_,_,X _ _ a,.of_isNs (W.isNs_of_in X f),vX X (.of_isNs (W.isNs_of_in X f)) s,W.tail_of_in X L,E⟩
structure GC(K:W.Frag)(C fI:Addr)(nm:Str):Prop where
 exc:excInI K C fI=true
 fn:∃oI,K.lookup fI=some oI/\oI.cls=.type "function"
 kp:W.keepIn K (.ref C)=true
 xc:XC K C
 sa:W.findIn K (.ref C) "__setattr__"=some (some (.builtin "object.__setattr__"))
 hd:W.hasDictIn K C=true
 tk:W.takerIn K C nm=some none
 at_:W.findIn K (.ref C) nm=some none
section
variable{X:Cx}{pins:List (Addr×Obj)}{σ:St}{H:Hp}{s:Shared}{C f e:Addr}{nm:Str}{k:Nat}{fd:FuncData}{ps:List Str}{sp:Sp}{E:XK}{Q:VK}{us ws:List Value}{zs:List V}{kw:List (Str×Value)}
open H
def EA(M:GC X.K C f nm)(F:bI X.prog X.w X.K X.mg X.base eU k f fd ps sp)(hr:ck (k+1) X.A)(hl:us.length<=sizeLine)(hb:∀(s:Shared) (e:Value),X.K.In s.heap->BindsTo s fd ⟨e::us,kw⟩ (ps.zip (e::ws)))(r:aQ zs ws)(I:Inv X pins σ H s)
  (h:∀e,H e=none->sp (.ref e::zs) (upd H e (XN C none e)) (λv H2=>v=.non/\Q (.ref e) H2) E):wpAny (model X.prog X.w) X.A (call (.ref C) us kw) (EP X pins σ Q) X.xe s:=by
 show X_101 (λtl N nm' qn bs hdct sn sub ab col=>X_71 λdd k0 k1 k2 k3 k5 mN=>X_05 λhC hN hi T _=> ?_) (pw I.kIn M.exc);let⟨oI,hoI,hfc⟩:=M.fn;let FV:=PySem.F.excBase_ValueError;let go:∀h' e,s.heap.objs.size<=e->Heap.MadeExcOf s.heap h' e (.ref C) us->wpAny (model X.prog X.w) (X.A.under (.builtin "type.__call__" ⟨.ref C::us,kw⟩)) (call (.ref f) (.ref e::us) kw) (λr s' =>r=.none/\EP X pins σ Q (.ref e) s') X.xe {s with heap:=h'}:=λh' e hz hm=>by
  let⟨t,he,_,_⟩:=hm.there;let I2:=I.laid (t' :=s.toks) hm.keeps hz (GG he);show wpAny_call (QB (F.run _ X.stack _ _ ⟨.ref e::us,kw⟩ (.ref e::ws) (V.ref e::zs) _ E (hr.make C us kw) (I2.env0.make C us kw) (hb _ _ I2.kIn) (.cons rfl r) (h e (I.hok.fresh hz))) λr s' hq' => ?_);cases r with
  |error e=>show hq'.elim|ok fl =>
   cases fl with
   |ret u =>let⟨v,H',I3,rv,ev,q3⟩:=I2.after hq';subst ev;show⟨rv,⟨V.ref e,H',I3,rfl,q3⟩⟩
   |next=>show False.elim hq'|brk=>show False.elim hq'|cont=>show False.elim hq'
 obtain⟨hp,g,d,t,os⟩:=s;show ze FV 02 FV T hC hN hi (I.kIn _ _ hoI) hfc go hl
end
end L2.XN
namespace L2.XN
open PySem PySem.Spec PyProof.Rows L2 XE
section
variable{X:Cx}{pins:List (Addr×Obj)}{σ:St}{H:Hp}{s:Shared}{C f e:Addr}{nm x:Str}{k:Nat}{fd:FuncData}{ps:List Str}{sp:Sp}{E:XK}{Q:VK}{p pos pos' :Pos}{e1 o value:Expr}{es:List Expr}{t:TA}{ta tv te:TE}{dvs:List V}{ds:List Value}
def tMkx(C:Addr)(b:Sp)(a:List V)(E:XK)(t:TA):TE:=λσ H Q=>t σ H λvs H1=>vs.length<=sizeLine/\∀e,H1 e=none->b (.ref e::(vs++a)) (upd H1 e (XN C none e)) (λv H2=>v=.non/\Q (.ref e) H2) E
open H
def EB{us:List Value}(M:GC X.K C f nm)(F:bI X.prog X.w X.K X.mg X.base eU k f fd ps sp)(g:ck (k+1) X.A)(i:Binds X.K fd ps ds)(b:aQ dvs ds)(I:Inv X pins σ H s)(r:aQ a us)(j:a.length<=sizeLine)
  (h:∀e,H e=none->sp (.ref e::(a++dvs)) (upd H e (XN C none e)) (λv H2=>v=.non/\Q (.ref e) H2) E):wpAny (model X.prog X.w) X.A (call (.ref C) us) (EP X pins σ Q) X.xe s:=by
 let d:(Value.none::us++ds).length=ps.length:=by let e:=F.len _ _ _ _ (h s.heap.objs.size (I.hok.fresh (NB _)));let c:=(r.append b).length;simp only[NW,NO]at e c ⊢;lia
 show EA M F g (by rwa[<- r.length]) (λs e X=> ?_) (r.append b) I h;show i s (e::us) X (by simpa using d)
def ID(M:GC X.K C f nm)(F:bI X.prog X.w X.K X.mg X.base eU k f fd ps sp)(v:ck (k+1) X.A)(l:Gl X x)(n:X.mg x=some (.ref C))(j:Binds X.K fd ps ds)(i:aQ dvs ds)(u:PA X (d::es) t)
  (c:(x==("__debug__":Str))=false:=by decide) (m:starEach (d::es) X.env=(false,eval d X.env)::starEach es X.env:=by rfl) (b:(backTo pos (starEach es X.env)).any (·.1)=false:=by rfl):PE X (.Call (.Name x p) (d::es) [] pos) (tMkx C sp dvs E t):=by
 intro a s g H Q I h;show P1 (jr I l n ?_ c);show W.callWith_K I.ok.mod.kin M.kp (ar (u pos a s g H _ I h) λus s1 ⟨vs,H1,I1,r,hz,q⟩=>⟨I1.kIn,?_⟩) m b;show EB M F v j i I1 r hz q
def K5(K:W.Frag)(c b:TE)(f:Str):TS:=λD σ H=>b σ H λy H1=>c σ H1 λx H2=>∃e C a,x=.ref e/\H2 e=some (XN C none e)/\GC K C a f/\∀d,H2 d=none->d≠e->D.nx σ (upd (upd H2 e (XN C (some d) e)) d (.xd [(f,y)]))
def EO{f:Str}(Z:PE X o ta)(S:PE X value tv)(O:swapsWith value (some (.Attribute o f pos')) pos.line X.env=pure false):PS X (.Assign [.Attribute o f pos'] value pos) (K5 X.K ta tv f):=by
 intro a s j H D I h;show plainObj_wpAny_Assign_Attribute (ar (S a s j H _ I h) λu s1 zm=> ?_) O;let⟨y,H1,I1,ry,q⟩:=zm;show ar (Z a s1 j H1 _ I1 q) λov s2 zm=> ?_;show X_23 (λx H2 I2 rx=>X_34 λe C fI ex ea M q2=> ?_) zm;subst ex;obtain rfl:ov=Value.ref e:=rx;obtain⟨⟨t,v⟩,_⟩:=I2.hok e _ ea;let⟨n,r,R⟩:=W.any_some M.hd;show X_101 (λtl N U qn bs w sn Y ab a0=>X_71 λdd k0 k1 k2 k3 k5 mN=>X_05 λhC hN hi T b=> ?_) (pw I2.kIn M.exc);show setx I2.kIn v rfl rfl ⟨_,rfl⟩ M.sa r R M.xc.ob ?_ M.tk λh' d tk hz hx hn kp=> ?_
 ·rw[b n r,refuseLoop_ref]
  show rg T (PySem.F.store_ValueError.passes _)
 ·let i:d≠e:=λz=>absurd (NQ v) (by rw[<- z];show Nat.not_lt.mpr hz)
  let c:=I2.hok.fresh hz;let J:Inv X a j (upd (upd H2 e (XN C (some d) e)) d (.xd [(f,y)])) {s2 with heap:=h',toks:=tk}:=by
   let L:KU (H2 e):=by rw[ea];show True.intro
   let A:upd H2 e (XN C (some d) e) d=none:=by rwa[aA i]
   show I2.un (rW (Un.write L (.inl rfl) kp ⟨_,hx⟩) (QN hz) A) (oo (I2.hok.write L (.inl rfl) kp ⟨_,hx⟩ (GG hx)) A ⟨_,hn,λg=> ?_⟩);change il ((match g==f with|true=>some y|false=>none):Option V) (if g=f then some u else none)
   by_cases l:g=f;rwa[M9 l,Og.mpr l];rw[NJ l,beq_false_of_ne l];show True.intro
  exists j,_,J,q2 d c i
def GL(K:W.Frag)(c:TE)(f:Str):TE:=λσ H Q=>c σ H λx H1=>∃e C b d a v,x=.ref e/\KM H1 C (some d) e/\H1 d=some (.xd a)/\GC K C b f/\a.lookup f=some v/\Q v H1
def EV{f:Str}(L:PE X o ta)(y:attributeBase o f X.env (eval o X.env)=eval o X.env):PE X (.Attribute o f pos) (GL X.K ta f):=by intro a s g H Q I h;show F6 y (ar (L a s g H _ I h) λu s1 hpq=> ?_);show X_23 (λx j b D=>X_61 λe C fI d fs v=>X_06 λA S n M l q=> ?_) hpq;subst A;obtain rfl:u=Value.ref e:=D;let⟨Z,vs,N,Y,R,O⟩:=S.at b.hok;let⟨U,m,r⟩:=b.hok d _ n;let⟨u',T,c⟩:=il.some_of (by rw[<- l];show r f);let⟨w,z,i⟩:=oZ m;let J:W.InstAt s1.heap e Z C (some w):=⟨N,Y,by unfold W.notCls;rw[O],by rwa[R]⟩;show Ll M.xc b.kIn J (W.findObj_own M.hd M.at_ rfl (by rw[i,T])) (zK c) ⟨v,j,b.tok _,c,q⟩
end
def DR(s:Shared)(v:Value):Prop:=∃e t d C m q N j g b r c h f o p i n l u a,v=.ref e/\g.contains (.type "BaseException")=true/\s.heap.get? C=some (excClassObj m q C N j g b r c h f o p i n l u a) /\ s.heap.get? e=some {cls:=.ref C,dict:=d,data:=.fields #[.ref t,.none,.none,.none,.bool false,.none]}
open H
def sU{A:Around}{s:Shared}(l:A.handled=none)(h:wpAny M A x (λv s₁=>DR s₁ v/\E v s₁) E s) :
  wpAny M A (raiseStmt c (some x) none) Q E s:=by
 show M1 (OR h (λv s₁ h₁=> ?_) λ_ _ x=>x);obtain⟨⟨e,t,d,C,D,q,N,y,o,j,R,n,u,p,J,L,w,H,z,S,f,rfl,a,i,m⟩,r⟩:=h₁;let b:(Value.ref C::o).contains (.type "BaseException")=true:=by rw[OT,a,QM]
 obtain⟨I,g,d,K,O⟩:=s₁
 repeat(first|with_reducible show O3 m ?_|with_reducible show O3 i ?_|(with_reducible show QR i ?_;rw[b])|wp_step)
 show wpAny_raiseNew_none l r
section
variable{X:Cx}{ex:Expr}{te:TE}{pos:Pos}
def Dr(K:PySem.W.Frag)(W:Addr->Addr->Option Addr->Hp->Prop)(c:TE):TS:=λ_ σ H=>c σ H λx H1=>∃e C b f a,x=.ref e/\GC K C b f/\H1 e=some (XN C a e)/\W e C a H1
def yq{W:Addr->Addr->Option Addr->Hp->Prop}(h:X.calm=true)(n:PE X ex te)(l:∀a c H s e C b,Inv X a c H s->H e=some (XN C b e)->W e C b H->X.xe (.ref e) s):PS X (.Raise (some ex) none pos) (Dr X.K W te):=by intro a s c H D I q;show M1 (Qb ?_);show sU (I.ok.hd h) (M1 (ar (n a s c H _ I q) λu s1 zm=> ?_));show X_23 (λx H1 I1 rx=>X_51 λe C fI f b=>X_04 λex M ea w=> ?_) zm;show M1 (Qb (NK ?_));subst ex;obtain rfl:u=Value.ref e:=rx;obtain⟨⟨t,m⟩,_⟩:=I1.hok e _ ea;show X_101 (λU N j Z A g R o y r=>X_71 λp Q z J E Y S=>X_05 λi O L T d=> ?_) (pw I1.kIn M.exc);show⟨⟨e,t,b,C,_,_,_,_,_,_,_,_,_,_,_,_,_,_,_,_,_,rfl,T.hasType rfl,i,m⟩,l a c H1 s1 e C b I1 ea w⟩
end
section
variable{P:Program}{w:World}{K:W.Frag}{mg:Str->Option Value}{base:Heap}{N:List Str}{qual:Str}{scope:Scope}{f C:Addr}{cd:Value}{A:Around}{outer:List Env}{s s1:Shared}{H H1:Hp}{E:XK}
 {pins:List (Addr×Obj)} {σ:St}
def vK(I:Inv (iC (GF P w C) P w K mg base N qual scope f cd A outer s H E) pins σ H1 s1)(h:H e=none)(a:H1 e=some (XN C d e))(q:E (.ref C) d (yw H1 e)) :
  (iC (GF P w C) P w K mg base N qual scope f cd A outer s H E).xe (.ref e) s1:=by
 obtain⟨⟨t,i⟩,_⟩:=I.hok e _ a;let g:s.heap.get? e=none:=by
  cases q:s.heap.get? e with
  |none=>rfl|some o=>rw[I.base.free e o q h (Nk)]at a;ext a
 let j:∀b∈fr (envOfC qual scope s.heap.objs.size f cd::outer),yw H1 e b=none:=λb m=>by by_cases c:b=e;rw[c,eo];rw[eD c];show I.stkFree b m
 show tU I.ok.frames I.stack rfl i rfl rfl λh2 T up hT fly=> ?_;show⟨e,T,yw H1 e,d,rfl,I.os,I.bare,G6 (GI I.base up I.ok.above (λb m=>by rwa[Nb.mp m])) a,qM (FH I.hok a) up j (λb m=>by rw[Nb.mp m];show eo),g,?_,eo,?_,fly,q⟩
 ·cases q:s.heap.get? T with
  |none=>rfl|some o =>let⟨l,z⟩:=I.base.there T o q (Nk);rw[hT]at z;ext z
 ·by_cases c:T=e
  ·rw[c,eo]
  ·rw[eD c];show t8 I.hok hT
end
end L2.XN
namespace L2.XN
open PySem PySem.Spec PyProof.Rows L2 XE
section
variable{X:Cx}{pins:List (Addr×Obj)}{σ:St}{H:Hp}{s:Shared}
def Ag(C:Addr)(i:Nat)(d:(St->XK)->TS)(f:Addr->Option Addr->TS):TS:=λD σ H =>
 ∃E:St->XK,d E D σ H/\∀a c b,a.length=σ.length->E a (.ref C) b c ->∀e,c e=none->f e b (DJ i D) (a.set i (some (.ref e))) (upd c e (XO C b e))
open H
def wq{C D:Addr}{i:Nat}{body:List Stmt}(hcalm:X.calm=true)(hst:X.stack=X.env::X.outer)(hf:X.env.frame=some X.env.locals)(hN:X.N.Nodup)(hi:X.N[i]? =some n)
  (hk:X.env.scope.names.lookup n=some .local) (hg:Gl X bx) (hm:X.mg bx=some (.ref D)) (hx:W.exmOne X.K (.ref C) (.ref D)=some true)
  (hb:∀(E:St->XK)(pn:List (Addr×Obj))(Wh:Value->Shared->Prop),DU (GF X.prog X.w C) (BO X pn Wh) E->rA (BO X pn Wh) body (tb E))
  (hs:∀(e:Addr)(dd:Option Addr)(pn:List (Addr×Obj)),rA (FG X e pn) (b0::suite) (ts e dd)) (hd:(bx==("__debug__":Str))=false:=by decide) :
  PS X (.Try body [.ExceptHandler (some (.Name bx bp)) (some n) (b0::suite) hpos] [] [] pos) (Ag C i tb ts):=by
 intro pins s σ H D' I zm;let⟨E,hq,hh⟩:=zm;show wpAny_Try_except ?_
 let Wh:Value->Shared->Prop:=λu s' =>wpAny (model X.prog X.w) X.A (noteFrame u X.env) (λ_ s2=>wpAny (model X.prog X.w) X.A (setFlight u none) (λ_ s3 =>wpAny (model X.prog X.w) X.A (handleBy u X.env [.ExceptHandler (some (.Name bx bp)) (some n) (b0::suite) hpos]) (SP X pins D') X.xe s3) X.xe s2) X.xe s'
 let hp:DU (GF X.prog X.w C) (BO X (X.pn++pins) Wh) E:=by
  intro p2 σ1 H1 s1 u s2 I1 zm;show X_41 (λe T H2 dd=>X_09 λhu ho hbr un ok n1 n2 n3=>X_03 λn4 fly q=> ?_) zm;subst hu;let J1:=unpinned I.ok I1;let J2:=J1.call' ho un ok hbr (λb z=>absurd z 03);let hfr:X.A.frames=some (X.env::X.outer):=by rw[<- hst];show I.ok.frames
  let hfs:s2.heap.FunFrames X.base (X.env::X.outer):=by rw[<- hst];show J2.stack
  let ns:∀b∈[e,T],s1.heap.get? b=none/\H2 b=none:=λb m=>by
   rcases NH.mp m with r|r
   ·rw[r];show⟨n1,n3⟩
   ·rw[Nb.mp r];show⟨n2,n4⟩
  let st:∀{h3:Heap},Up (fr (X.env::X.outer)) [e,T] s2.heap h3->Inv X pins σ1 H2 {s2 with heap:=h3}:=λ{h3} up=>by rw[<- hst]at up;show J1.call' ho (AQ un up λb m=>(ns b m).1) (qM ok up J2.stkFree λb m=>(ns b m).2) hbr (λb z=>absurd z 03)
  show Ei hfr hfs hf fly λh3 T' up hT fly3=> ?_;show wpAny_handleBy_cons (codeAny_handlers_test ?_) (by intro z;ext z);let K3:Inv (FG X e []) [] σ1 H2 {s2 with heap:=h3}:=Lf (st up) (λp z=>absurd z 03);show jr K3 hg hm ?_ hd;show X_41 (λoe vs oT tts=>X_09 λe1 e2 e3 e4 e5 e6 e7 e8 e9=> ?_) (id fly3);let lt:W.Looks (model X.prog X.w) h3 (typeOf (.ref e)) (.ref C):=e2▸(W.Looks.ld e1).andThen .now;show(W.exm_one K3.kIn lt hx).here ?_;show codeAny_handlers_suite_as ?_;show land fly3 λh4 k4 fly4=> ?_;show X_41 (λoe4 vs4 oT4 ts4=>X_09 λf1 f2 f3 f4 f5 f6 f7 f8 f9=> ?_) (id fly4);let K4:Inv (FG X e (X.pn++pins)) [] σ1 (upd H2 e (XO C dd e)) {s2 with heap:=h4}:=by
   let up4:=up.land hT k4;rw[<- hst]at up4
   let J5:=J1.call' (s' :={s2 with heap:=h4}) ho (rW (AQ un up4 λb m=>(ns b m).1) n1 n3)
    (oo (qM ok up4 J2.stkFree λb m=>(ns b m).2) n3 (Kc f1 f2 f3 f4)) hbr (λb z=>absurd z 03)
   show Lf J5 λp m=>J5.pin p m
  show gE (X:=FG X e (X.pn++pins)) K4 hN hi (.inl hk) (v:=.ref e) rfl (λs5 I5=> ?_) (.inr hk);show OR (hs e dd _ [] s5 _ _ (DJ i D') I5 (hh σ1 H2 dd ?_ q e n3)) (λf s6 r=> ?_) λ_ _ z=>z.elim
  ·rw[J1.len,I.len]
  let fin:∀σ6 H6 v0,Inv (FG X e (X.pn++pins)) [] σ6 H6 s6->(∀s7,Inv X pins (σ6.set i none) H6 s7->SP X pins D' f s7)->v0=v0 -> wpAny (model X.prog X.w) X.A (do bindName X.env n .none;unbindBehindTheSuite X.env n hpos) (λ_ s3=>SP X pins D' f s3) X.xe s6:=λσ6 H6 (v0:Nat) I6 k _=>by
   let J6:=LK I.ok I6 λp m=>m;show M1 (wpAny_bindName (gE J6 hN hi (.inl hk) (v:=.non) rfl (λs7 J7=> ?_) (.inr hk)));show wpAny_onRaise (Jb J7 hN hi hk (v:=.non) ?_ λs8 J8=> ?_)
   ·rw[OI (by rw[J6.len];show(NC.mp hi).1)]
   ·rw[List.set_set]at J8
    show k s8 J8
  cases f with
  |next =>let⟨σ6,H6,I6,q6⟩:=r;show fin σ6 H6 0 I6 (λs7 J=>⟨_,_,J,q6⟩) rfl
  |brk =>let⟨σ6,H6,I6,q6⟩:=r;show fin σ6 H6 0 I6 (λs7 J=>⟨_,_,J,q6⟩) rfl
  |cont =>let⟨σ6,H6,I6,q6⟩:=r;show fin σ6 H6 0 I6 (λs7 J=>⟨_,_,J,q6⟩) rfl
  |ret u =>let⟨v,σ6,H6,I6,rv,q6⟩:=r;show fin σ6 H6 0 I6 (λs7 J=>⟨v,_,_,J,rv,q6⟩) rfl
 show OR (hb E _ Wh hp [] s σ H D' (pinned I) hq) (λf s1 r=> ?_) λ_ _ r=>r;cases f with
 |next =>let⟨σ6,H6,I6,q6⟩:=r;show QQ ⟨σ6,H6,unpinned I.ok I6,q6⟩
 |brk =>let⟨σ6,H6,I6,q6⟩:=r;exists σ6,H6,unpinned I.ok I6,q6
 |cont =>let⟨σ6,H6,I6,q6⟩:=r;exists σ6,H6,unpinned I.ok I6,q6
 |ret u =>let⟨v,σ6,H6,I6,rv,q6⟩:=r;exists v,σ6,H6,unpinned I.ok I6,rv,q6
end
end L2.XN
namespace L2.XN
open PySem PySem.Spec PyProof.Rows L2 XE
end L2.XN
namespace L2.XN
open PySem PySem.Spec PyProof.Rows L2 XE
end L2.XN
namespace IR
open PySem PySem.Spec PyProof.Rows L2 L2.XN
section
variable{K:W.Frag}{mg:Str->Option Value}{P:Nat->Option FD}{F:List (Str×Nat)}{G:List (Str×PV)}{B:List Str}{p:Program}{w:World}{base:Heap}{k:Nat}
variable(hG:∀x v,G.lookup x=some v->∃u w,mg x=some u/\RelV w u/\∀Hi n H,Rp K Hi n v H w)(hB:∀x,B.contains x=true->mg x=none)
include hG hB
end
end IR
namespace Law
open PySem PySem.Spec PyProof.Rows L2 IR
def F:List (Str×Nat):=("is_side",0)::("is_line",1)::("is_board",2)::("cells_of",3)::("columns_in",109)::("bits_of",46)::("with_line",47)::("row_of",48)::("number_at",58)::("falling",85)::("ways",86)::("signed",92)::("hits_at",98)::("hits_of",99)::("takes_column",110)::[("holders_of",111),("others",112),("reached",113),("most_of",114),("has_all_of",141),("crossing_rows",142),("steps_of",143),("factors_of",144),("read_board",32),("line_of",215),("words_of_most",216),("words_of_factors",217),("report",218),("_law_draws",219),("_law_next",220),("_law_order",221),("_law_stair",227),("_law_board",228),("_law_row",229),("_law_product",230),("_law_taken",231),("_law_hits",232),("_law_numbers",233),("_law_read",234),("_law_covers",235),("_law_columns",236),("_law_has_all",237),("_law_last",238),("_law_good",239),("law",240)]
def G:List (Str×PV):=[("CELL",(.str "x")),("HOLE",(.str ".")),("GREATEST_SIDE",(.int 8))]
def B:List Str:=["len","int","list","tuple","all","min","max","isinstance","str","range","enumerate","sorted","set","sum","dict"]
abbrev N0:List Str:=["number"]
abbrev N1:List Str:=["thing"]
abbrev N2:List Str:=["thing"]
abbrev N3:List Str:=["board","cells","row","line","column","sign"]
abbrev N109:List Str:=["line"]
abbrev N46:List Str:=["line","bits","bit","sign"]
abbrev N47:List Str:=["levels","bits","after","size","level","above","taken","count","bit"]
abbrev N48:List Str:=["board","levels","line"]
abbrev N58:List Str:=["numbers","place"]
abbrev N85:List Str:=["number","factors","product","less"]
abbrev N86:List Str:=["things","taken"]
abbrev N92:List Str:=["number","turns"]
abbrev N98:List Str:=["row","lesser","greater","hit","number","size","full"]
abbrev N99:List Str:=["board","lesser","greater","row"]
abbrev N110:List Str:=["choices","holders","row","tried","column"]
abbrev N111:List Str:=["choices","holders","row"]
abbrev N112:List Str:=["size","numbers"]
abbrev N113:List Str:=["choices","holders","rows","columns","place","row","column"]
abbrev N114:List Str:=["board","choices","holders","placing","reach"]
abbrev N141:List Str:=["line","other"]
abbrev N142:List Str:=["board","row","line","below","other"]
abbrev Mp:List Str:=["board","rows"]
abbrev Mn:List Str:=["board","steps","noughts"]
abbrev N32:List Str:=["text","board"]
abbrev N215:List Str:=["words"]
abbrev N216:List Str:=["board","told"]
abbrev KG:List Str:=["board","refusal"]
abbrev N218:List Str:=["text","board","lines"]
abbrev N219:List Str:=["_law_script","_law_cells","_law_by_digits","_law_left","_law_found","_law_k","_law_at","_law_number"]
abbrev N220:List Str:=["_law_drawn"]
abbrev N221:List Str:=["_law_drawn","_law_many","_law_found","_law_k"]
abbrev KF:List Str:=["_law_drawn","_law_rows","_law_columns_here","_law_order_here","_law_lines","_law_k","_law_some"]
abbrev N228:List Str:=["_law_drawn","_law_rows","_law_columns_here","_law_thick","_law_lines","_law_k"]
abbrev KD:List Str:=["_law_board_here","_law_counts","_law_bits","_law_line","_law_fresh","_law_taken_here","_law_column","_law_there","_law_row_here","_law_size"]
abbrev N230:List Str:=["_law_first","_law_last_here","_law_found","_law_number"]
abbrev N231:List Str:=["_law_many","_law_few"]
abbrev N232:List Str:=["_law_row_here","_law_low","_law_high","_law_found","_law_j","_law_total","_law_k","_law_part"]
abbrev N233:List Str:=["_law_word","_law_numbers_here"]
abbrev N234:List Str:=["_law_words","_law_found","_law_word"]
abbrev N235:List Str:=["_law_line","_law_board_here","_law_most","_law_words","_law_at","_law_rows","_law_columns_here","_law_row_here","_law_column"]
abbrev N236:List Str:=["_law_line"]
abbrev N237:List Str:=["_law_one","_law_other"]
abbrev N238:List Str:=["_law_board_here","_law_one","_law_other","_law_steps"]
abbrev N239:List Str:=["_law_found","_law_board_here","_law_lines","_law_row_here","_law_low","_law_high","_law_hits_here","_law_cells"]
abbrev KC:List Str:=["_law_script","_law_drawn","_law_board_here","_law_signs","_law_found","_law_other"]
def d0:FD:=⟨1,1,(.cons (.ret [] (.chn .LtE .LtE (.con (.int 1)) (.var 0) (.con (.int 8)))) .nil)⟩
def d1:FD:=⟨1,1,(.cons (.ife (.or (.not (.val (.bf (.isin "str") 07))) (.not (.val (.call 0 (.cons (.bf .len 07) .nil))))) (.cons (.ret [] (.con (.bl false))) .nil) .nil) (.cons (.ret [] (.bf .all (.cons (.lc (.cmp .In (.var 0) (.tup (.cons (.con (.str "x")) (.cons (.con (.str ".")) .nil)))) (.seq (.var 0)) .no []) .nil))) .nil))⟩
def d2:FD:=⟨1,1,(.cons (.ife (.or (.not (.val (.bf (.isin "tuple") 07))) (.not (.val (.call 0 (.cons (.bf .len 07) .nil))))) (.cons (.ret [] (.con (.bl false))) .nil) .nil) (.cons (.ife (.not (.val (.bf .all (.cons (.lc (.call 1 07) (.seq (.var 0)) .no []) .nil)))) (.cons (.ret [] (.con (.bl false))) .nil) .nil) (.cons (.ret [] (.bf .all (.cons (.lc (.cmp .Eq (.bf .len 07) (.bf .len (.cons (.ix (.var 1) (.con (.int 0))) .nil))) (.seq (.var 0)) .no [0]) .nil))) .nil)))⟩
def d3:FD:=⟨6,1,(.cons (.asg 1 true [] (.lst .nil)) (.cons (.forr [2,3] false [0] (.enum (.var 0)) (.cons (.forr [4,5] false [3] (.enum (.var 3)) (.cons (.ife (.val (.cmp .Eq (.var 5) (.con (.str "x")))) (.cons (.app 1 [2,4] (.tup (.cons (.var 2) (.cons (.var 4) .nil)))) .nil) .nil) .nil)) .nil)) (.cons (.ret [1] (.var 1)) .nil)))⟩
def MM:FD:=⟨1,1,(.cons (.ret [] (.lc2 (.var 0) (.enum (.var 0)) (.yes (.val (.cmp .Eq (.var 1) (.con (.str "x"))))) [])) .nil)⟩
def d46:FD:=⟨4,1,(.cons (.asg 1 true [] (.lst .nil)) (.cons (.asg 2 false [] (.con (.int 1))) (.cons (.forr [3] true [0] (.seq (.var 0)) (.cons (.ife (.val (.cmp .Eq (.var 3) (.con (.str "x")))) (.cons (.app 1 [2] (.var 2)) .nil) .nil) (.cons (.asg 2 false [] (.bin .Mult (.var 2) (.con (.int 2)))) .nil))) (.cons (.ret [1] (.var 1)) .nil))))⟩
def KR:FD:=⟨9,2,(.cons (.hand 2 bw) .nil)⟩
def d48:FD:=⟨3,1,(.cons (.asg 1 false [] (.lst (.cons (.dlit (.inl 0) (.con (.int 1))) .nil))) (.cons (.forr [2] true [0] (.seq (.var 0)) (.cons (.asg 1 false [] (.call 47 (.cons (.var 1) (.cons (.call 46 (.cons (.var 2) .nil)) .nil)))) .nil)) (.cons (.ret [1] (.lc (.bf .sumv 07) (.seq (.var 1)) (.yes (.val (.cmp .Gt (.bf .len 07) (.con (.int 0))))) [])) .nil)))⟩
def d58:FD:=⟨2,2,(.cons (.ret [] (.ite (.val (.cmp .Lt (.var 1) (.bf .len 07))) (.ix (.var 0) (.var 1)) (.con (.int 0)))) .nil)⟩
def d85:FD:=⟨4,2,(.cons (.asg 2 false [] (.con (.int 1))) (.cons (.forr [3] true [] (.rng 09) (.cons (.asg 2 false [] (.bin .Mult (.var 2) (.bin .Sub (.var 0) (.var 3)))) .nil)) (.cons (.ret [2] (.var 2)) .nil)))⟩
def d86:FD:=⟨2,2,(.cons (.ife (.not (.val (.chn .LtE .LtE (.con (.int 0)) (.var 1) (.var 0)))) (.cons (.ret [] (.con (.int 0))) .nil) .nil) (.cons (.ret [] (.bin .FloorDiv (.call 85 (.cons (.var 0) 09)) (.call 85 (.cons (.var 1) 09)))) .nil))⟩
def d92:FD:=⟨2,2,(.cons (.ret [0] (.ite (.val (.cmp .Eq (.bin .Mod (.var 1) (.con (.int 2))) (.con (.int 0)))) (.var 0) (.neg (.var 0)))) .nil)⟩
def d98:FD:=⟨7,4,(.cons (.asg 4 false [] (.con (.int 0))) (.cons (.forr [5] true [] (.rng (.cons (.var 3) (.cons (.bin .Add (.var 1) (.con (.int 1))) .nil))) (.cons (.asg 6 false [] (.bin .Mult (.call 58 (.cons (.var 0) (.cons (.var 5) .nil))) (.call 85 (.cons (.bin .Sub (.var 2) (.var 5)) (.cons (.bin .Sub (.var 1) (.var 5)) .nil))))) (.cons (.aug 4 .Add (.call 92 (.cons (.bin .Mult (.call 86 (.cons (.var 5) (.cons (.var 3) .nil))) (.var 6)) (.cons (.bin .Sub (.var 5) (.var 3)) .nil)))) .nil))) (.cons (.ret [4] (.var 4)) .nil)))⟩
def d99:FD:=⟨4,1,(.cons (.asg 1 false [] (.bf .min (.cons (.bf .len 07) (.cons (.bf .len (.cons (.ix (.var 0) (.con (.int 0))) .nil)) .nil)))) (.cons (.asg 2 false [] (.bf .max (.cons (.bf .len 07) (.cons (.bf .len (.cons (.ix (.var 0) (.con (.int 0))) .nil)) .nil)))) (.cons (.asg 3 false [] (.call 48 07)) (.cons (.ret [] (.lc (.call 98 (.cons (.var 3) (.cons (.var 2) (.cons (.var 1) 07)))) (.rng (.cons (.bin .Add (.var 1) (.con (.int 1))) .nil)) .no [2,1,3])) .nil))))⟩
def d110:FD:=⟨5,4,(.cons .never .nil)⟩
def Fd:FD:=⟨3,1,(.cons (.drop (.call 20011 08)) (.cons (.hand 1 t7) .nil))⟩
def ML:FD:=⟨2,2,(.cons (.ret [] (.lc (.var 0) (.rng 07) (.yes (.val (.cmp .NotIn (.var 0) (.var 1)))) [1])) .nil)⟩
def MK:FD:=⟨7,2,(.cons (.asg 2 true [] (.call 112 (.cons (.bf .len 07) (.cons (.bf .lvals 09) .nil)))) (.cons (.asg 3 true [] (.lst .nil)) (.cons (.asg 4 false [] (.con (.int 0))) (.cons (.whil (.val (.cmp .Lt (.var 4) (.bf .len (.cons (.var 2) .nil)))) (.cons (.asg 5 false [] (.ix (.var 2) (.var 4))) (.cons (.forr [6] true [] (.seq (.ix (.var 0) (.var 5))) (.cons (.ife (.val (.cmp .NotIn (.var 6) (.var 3))) (.cons (.app 3 [6] (.var 6)) (.cons (.app 2 [] (.ix (.var 1) (.var 6))) .nil)) .nil) .nil)) (.cons (.aug 4 .Add (.con (.int 1))) .nil)))) (.cons (.ret [2,3] (.tup (.cons (.var 2) (.cons (.var 3) .nil)))) .nil)))))⟩
def MJ:FD:=⟨5,1,(.cons (.asg 1 false [] (.lc (.call 109 07) (.seq (.var 0)) .no [])) (.cons (.asg 2 false [] (.call 111 09)) (.cons (.asg 3 false [] (.bf .tuple (.cons (.bf .sorted (.cons (.lcs (.var 2)) .nil)) .nil))) (.cons (.asg 4 false [] (.call 113 (.cons (.var 1) (.cons (.var 2) .nil)))) (.cons (.ret [3] (.tup (.cons (.var 3) (.cons (.call 112 (.cons (.bf .len 07) (.cons (.ix (.var 4) (.con (.int 0))) .nil))) (.cons (.bf .sorted (.cons (.ix (.var 4) (.con (.int 1))) .nil)) .nil))))) .nil)))))⟩
def MI:FD:=⟨2,2,(.cons (.ret [] (.bf .all (.cons (.lc (.cmp .Eq (.ix (.var 1) (.var 0)) (.con (.str "x"))) (.seq (.call 109 09)) .no [0]) .nil))) .nil)⟩
def MH:FD:=⟨5,1,(.cons (.forr [1,2] false [0] (.enum (.var 0)) (.cons (.forr [3] true [] (.rng (.cons (.bin .Add (.var 1) (.con (.int 1))) (.cons (.bf .len 07) .nil))) (.cons (.asg 4 false [] (.ix (.var 0) (.var 3))) (.cons (.ife (.and (.not (.val (.call 141 (.cons (.var 2) (.cons (.var 4) .nil))))) (.not (.val (.call 141 (.cons (.var 4) (.cons (.var 2) .nil)))))) (.cons (.ret [1,3] (.tup (.cons (.var 1) (.cons (.var 3) .nil)))) .nil) .nil) .nil))) .nil)) (.cons (.ret [] (.con .non)) .nil))⟩
def MG:FD:=⟨2,1,(.cons (.asg 1 false [] (.call 142 07)) (.cons (.ife (.val (.cmp .IsNot (.var 1) (.con .non))) (.cons .never .nil) .nil) (.cons (.ret [0] (.bf .sorted (.cons (.lc (.mth .count (.var 0) (.cons (.con (.str "x")) .nil)) (.seq (.var 0)) .no []) .nil))) .nil)))⟩
def MF:FD:=⟨3,1,(.cons (.asg 1 false [] (.call 143 07)) (.cons (.asg 2 false [] (.bin .Mult (.lst (.cons (.con (.int 0)) .nil)) (.bin .Sub (.con (.int 8)) (.bf .len 09)))) (.cons (.ret [] (.bf .sorted (.cons (.lc2 (.bin .Sub (.var 1) (.var 0)) (.enum (.bin .Add (.var 2) (.var 1))) .no []) .nil))) .nil)))⟩
def d32:FD:=⟨2,1,(.cons (.ife (.not (.val (.bf (.isin "str") 07))) (.cons (.rais "NoBoard") .nil) .nil) (.cons (.asg 1 false [] (.bf .tuple (.cons (.mth .split (.var 0) (.cons (.con (.str "\n")) .nil)) .nil))) (.cons (.ife (.not (.val (.call 2 09))) (.cons (.rais "NoBoard") .nil) .nil) (.cons (.ret [1] (.var 1)) .nil))))⟩
def ME:FD:=⟨1,1,(.cons (.ret [] (.mth .join (.con (.str " ")) (.cons (.lc (.bf .str 07) (.seq (.var 0)) .no []) .nil))) .nil)⟩
def MD:FD:=⟨2,1,(.cons (.asg 1 false [] (.call 114 07)) (.cons (.ret [] (.bin .Add (.bin .Add (.bin .Add (.lst (.cons (.con (.str "most")) (.cons (.bf .len (.cons (.ix (.var 1) (.con (.int 0))) .nil)) (.cons (.con (.str "rows")) .nil)))) (.ix (.var 1) (.con (.int 1)))) (.lst (.cons (.con (.str "columns")) .nil))) (.ix (.var 1) (.con (.int 2))))) .nil))⟩
def Jd:FD:=⟨2,1,(.cons (.drop (.call 20020 08)) (.cons (.drop (.call 20102 07)) (.cons (.asg 1 false [] (.call 142 07)) (.cons (.ife (.val (.cmp .IsNot (.var 1) (.con .non))) (.cons (.ret [] (.bin .Add (.lst (.cons (.con (.str "none")) .nil)) (.bf .list 09))) .nil) .nil) (.cons (.ret [] (.bin .Add (.lst (.cons (.con (.str "factors")) .nil)) (.call 144 07))) .nil)))))⟩
def MC:FD:=⟨3,1,(.cons (.asg 1 false [] (.call 32 07)) (.cons (.asg 2 false [] (.lst (.cons (.lst (.cons (.con (.str "cells")) (.cons (.bf .len (.cons (.call 3 09) .nil)) .nil))) (.cons (.bin .Add (.lst (.cons (.con (.str "row")) .nil)) (.call 48 09)) (.cons (.bin .Add (.lst (.cons (.con (.str "hits")) .nil)) (.call 99 09)) (.cons (.call 216 09) (.cons (.call 217 09) .nil))))))) (.cons (.ret [] (.mth .join (.con (.str "\n")) (.cons (.lc (.call 215 07) (.seq (.var 2)) .no []) .nil))) .nil)))⟩
def L9:FD:=⟨8,1,(.cons (.asg 1 true [] (.sl (.bin .Add (.bf .list (.cons (.sl (.var 0) .no (.yes (.con (.int 63)))) .nil)) (.lst (.cons (.con (.int 0)) .nil))) .no (.yes (.bf .max (.cons (.con (.int 1)) (.cons (.bf .min (.cons (.bf .len 07) (.cons (.con (.int 63)) .nil))) .nil)))))) (.cons (.asg 2 false [] (.cmp .Eq (.bin .Mod (.ix (.var 1) (.con (.int 0))) (.con (.int 2))) (.con (.int 1)))) (.cons (.seti 1 [] (.con (.int 0)) (.bin .FloorDiv (.ix (.var 1) (.con (.int 0))) (.con (.int 2)))) (.cons (.asg 3 true [] (.bf .list 09)) (.cons (.asg 4 true [] (.lst .nil)) (.cons (.forr [5] true [] (.rng (.cons (.con (.int 200)) .nil)) (.cons (.asg 6 false [] (.bin .Mod (.var 5) (.bf .len 09))) (.cons (.asg 7 false [] (.bin .Mod (.ix (.var 3) (.var 6)) (.con (.int 2147483629)))) (.cons (.ife (.and (.val (.var 2)) (.val (.cmp .NotIn (.ix (.var 3) (.var 6)) (.lst (.cons (.con (.int 0)) (.cons (.neg (.con (.int 1))) .nil)))))) (.cons (.seti 3 [] (.var 6) (.bin .FloorDiv (.ix (.var 3) (.var 6)) (.con (.int 2147483629)))) .nil) (.cons (.asg 7 false [] (.bin .Mod (.bin .Add (.bin .Add (.bin .Mult (.bin .Mod (.ix (.var 1) (.var 6)) (.con (.int 2147483629))) (.con (.int 48271))) (.bin .Mult (.bin .Mult (.con (.int 7919)) (.var 5)) (.var 5))) (.con (.int 104729))) (.con (.int 2147483647)))) (.cons (.asg 7 false [] (.bin .Mod (.bin .Mult (.var 7) (.var 7)) (.con (.int 2147483629)))) (.cons (.asg 7 false [] (.bin .Mod (.bin .Mult (.bin .Mod (.bin .Add (.bin .Mult (.var 7) (.con (.int 69621))) (.bin .Mult (.con (.int 3571)) (.var 5))) (.con (.int 2147483563))) (.var 7)) (.con (.int 2147483629)))) .nil)))) (.cons (.app 4 [7] (.var 7)) .nil))))) (.cons (.ret [] (.rev (.var 4))) .nil)))))))⟩
def d220:FD:=⟨1,1,(.cons .never .nil)⟩
def d221:FD:=⟨4,2,(.cons .never .nil)⟩
def d227:FD:=⟨7,3,(.cons .never .nil)⟩
def d228:FD:=⟨6,1,(.cons .never .nil)⟩
def L8:FD:=⟨10,1,(.cons (.hand 1 oM) .nil)⟩
def L7:FD:=⟨4,2,(.cons (.asg 2 false [] (.con (.int 1))) (.cons (.forr [3] true [] (.rng (.cons (.var 0) (.cons (.bin .Add (.var 1) (.con (.int 1))) .nil))) (.cons (.asg 2 false [] (.bin .Mult (.var 2) (.var 3))) .nil)) (.cons (.ret [2] (.var 2)) .nil)))⟩
def L6:FD:=⟨2,2,(.cons (.ret [] (.bin .FloorDiv (.call 230 (.cons (.bin .Add (.bin .Sub (.var 0) (.var 1)) (.con (.int 1))) 07)) (.call 230 (.cons (.con (.int 1)) 09)))) .nil)⟩
def L5:FD:=⟨8,3,(.cons (.asg 3 true [] (.lst .nil)) (.cons (.forr [4] true [] (.rng (.cons (.bin .Add (.var 1) (.con (.int 1))) .nil)) (.cons (.asg 5 false [] (.con (.int 0))) (.cons (.forr [6] true [] (.rng (.cons (.var 4) (.cons (.bf .len 07) .nil))) (.cons (.asg 7 false [] (.bin .Mult (.bin .Mult (.call 231 (.cons (.var 6) (.cons (.var 4) .nil))) (.ix (.var 0) (.var 6))) (.call 230 (.cons (.bin .Add (.bin .Sub (.var 2) (.var 1)) (.con (.int 1))) (.cons (.bin .Sub (.var 2) (.var 6)) .nil))))) (.cons (.asg 5 false [5] (.bin .Add (.var 5) (.bin .Mult (.var 7) (.ix (.lst (.cons (.con (.int 1)) (.cons (.neg (.con (.int 1))) .nil))) (.bin .Mod (.bin .Sub (.var 6) (.var 4)) (.con (.int 2))))))) .nil))) (.cons (.app 3 [5] (.var 5)) .nil)))) (.cons (.ret [3] (.var 3)) .nil)))⟩
def L4:FD:=⟨2,2,(.cons (.ret [] (.mth .join (.con (.str " ")) (.cons (.bin .Add (.lst 07) (.lc (.bf .str 07) (.seq (.var 1)) .no [])) .nil))) .nil)⟩
def L1:FD:=⟨3,1,(.cons (.asg 1 true [] (.lst .nil)) (.cons (.forr [2] true [0] (.seq (.var 0)) (.cons (.ife (.val (.cmp .NotIn (.var 2) (.lst (.cons (.con (.str "0")) (.cons (.con (.str "1")) (.cons (.con (.str "2")) (.cons (.con (.str "3")) (.cons (.con (.str "4")) (.cons (.con (.str "5")) (.cons (.con (.str "6")) (.cons (.con (.str "7")) .nil))))))))))) (.cons (.ret [] (.con .non)) .nil) .nil) (.cons (.app 1 [] (.bf .int (.cons (.var 2) .nil))) .nil))) (.cons (.ife (.val (.cmp .NotEq (.var 1) (.bf .sset 09))) (.cons (.ret [] (.con .non)) .nil) .nil) (.cons (.ret [1] (.var 1)) .nil))))⟩
def Lz:FD:=⟨9,3,(.cons (.asg 3 false [] (.mth .split (.var 0) (.cons (.con (.str " ")) .nil))) (.cons (.ife (.or (.val (.cmp .NotEq (.sl (.var 3) .no (.yes (.con (.int 3)))) (.lst (.cons (.con (.str "most")) (.cons (.bf .str (.cons (.var 2) .nil)) (.cons (.con (.str "rows")) .nil)))))) (.val (.cmp .NotEq (.mth .count (.var 3) (.cons (.con (.str "columns")) .nil)) (.con (.int 1))))) (.cons (.ret [] (.con (.bl false))) .nil) .nil) (.cons (.asg 4 false [] (.mth .index (.var 3) (.cons (.con (.str "columns")) .nil))) (.cons (.asg 5 false [] (.call 234 (.cons (.sl (.var 3) (.yes (.con (.int 3))) (.yes (.var 4))) .nil))) (.cons (.asg 6 false [] (.call 234 (.cons (.sl (.var 3) (.yes (.bin .Add (.var 4) (.con (.int 1)))) .no) .nil))) (.cons (.ife (.or (.val (.cmp .Is (.var 5) (.con .non))) (.or (.val (.cmp .Is (.var 6) (.con .non))) (.val (.cmp .NotEq (.bin .Add (.bf .len (.cons (.var 5) .nil)) (.bf .len (.cons (.var 6) .nil))) (.var 2))))) (.cons (.ret [] (.con (.bl false))) .nil) .nil) (.cons (.forr [7] true [] (.rng (.cons (.bf .len 09) .nil)) (.cons (.forr [8] true [] (.rng (.cons (.bf .len (.cons (.ix (.var 1) (.con (.int 0))) .nil)) .nil)) (.cons (.ife (.and (.val (.cmp .Eq (.ix (.ix (.var 1) (.var 7)) (.var 8)) (.con (.str "x")))) (.and (.val (.cmp .NotIn (.var 7) (.var 5))) (.val (.cmp .NotIn (.var 8) (.var 6))))) (.cons (.ret [] (.con (.bl false))) .nil) .nil) .nil)) .nil)) (.cons (.ret [] (.and (.cmp .Lt (.bf .maxl (.cons (.bin .Add (.var 5) (.lst (.cons (.con (.int 0)) .nil))) .nil)) (.bf .len 09)) (.cmp .Lt (.bf .maxl (.cons (.bin .Add (.var 6) (.lst (.cons (.con (.int 0)) .nil))) .nil)) (.bf .len (.cons (.ix (.var 1) (.con (.int 0))) .nil))))) .nil))))))))⟩
def Ly:FD:=⟨1,1,(.cons (.ret [] (.lc (.var 0) (.rng (.cons (.bf .len 07) .nil)) (.yes (.val (.cmp .Eq (.ix (.var 1) (.var 0)) (.con (.str "x"))))) [0])) .nil)⟩
def Lx:FD:=⟨2,2,(.cons (.ret [] (.cmp .Eq (.bf .len (.cons (.lc (.var 0) (.seq (.call 236 09)) (.yes (.val (.cmp .NotEq (.ix (.var 1) (.var 0)) (.con (.str "x"))))) [0]) .nil)) (.con (.int 0)))) .nil)⟩
def Lw:FD:=⟨4,1,(.cons (.forr [1] true [] (.rng (.cons (.bf .len 07) .nil)) (.cons (.forr [2] true [] (.rng (.cons (.bin .Add (.var 1) (.con (.int 1))) (.cons (.bf .len 07) .nil))) (.cons (.ife (.and (.not (.val (.call 237 (.cons (.ix (.var 0) (.var 1)) (.cons (.ix (.var 0) (.var 2)) .nil))))) (.not (.val (.call 237 (.cons (.ix (.var 0) (.var 2)) (.cons (.ix (.var 0) (.var 1)) .nil)))))) (.cons (.ret [] (.call 233 (.cons (.con (.str "none")) (.cons (.lst (.cons (.var 1) (.cons (.var 2) .nil))) .nil)))) .nil) .nil) .nil)) .nil)) (.cons (.asg 3 false [] (.bf .sorted (.cons (.bin .Add (.bin .Mult (.lst (.cons (.con (.int 0)) .nil)) (.bin .Sub (.con (.int 8)) (.bf .len 07))) (.lc (.bf .len (.cons (.call 236 07) .nil)) (.seq (.var 0)) .no [])) .nil))) (.cons (.ret [] (.call 233 (.cons (.con (.str "factors")) (.cons (.bf .sorted (.cons (.lc (.bin .Sub (.ix (.var 1) (.var 0)) (.var 0)) (.rng (.cons (.con (.int 8)) .nil)) .no [3]) .nil)) .nil)))) .nil)))⟩
def Lu:FD:=⟨8,2,(.cons (.ife (.not (.val (.bf (.isin "str") 07))) (.cons (.ret [] (.con (.bl false))) .nil) .nil) (.cons (.asg 2 false [] (.mth .split (.var 0) (.cons (.con (.str "\n")) .nil))) (.cons (.asg 3 false [] (.call 229 09)) (.cons (.asg 4 false [] (.bf .min (.cons (.bf .len 09) (.cons (.bf .len (.cons (.ix (.var 1) (.con (.int 0))) .nil)) .nil)))) (.cons (.asg 5 false [] (.bf .max (.cons (.bf .len 09) (.cons (.bf .len (.cons (.ix (.var 1) (.con (.int 0))) .nil)) .nil)))) (.cons (.asg 6 false [] (.call 232 (.cons (.var 3) (.cons (.var 4) (.cons (.var 5) .nil))))) (.cons (.asg 7 false [] (.bf .sum (.cons (.lc (.mth .count (.var 0) (.cons (.con (.str "x")) .nil)) (.seq (.var 1)) .no []) .nil))) (.cons (.ife (.or (.val (.cmp .NotEq (.bf .len (.cons (.var 2) .nil)) (.con (.int 5)))) (.val (.cmp .NotEq (.bf .sum (.cons (.var 6) .nil)) (.call 230 (.cons (.bin .Add (.bin .Sub (.var 5) (.var 4)) (.con (.int 1))) (.cons (.var 5) .nil)))))) (.cons (.ret [] (.con (.bl false))) .nil) .nil) (.cons (.ife (.val (.cmp .NotEq (.sl (.var 2) .no (.yes (.con (.int 3)))) (.lst (.cons (.call 233 (.cons (.con (.str "cells")) (.cons (.lst (.cons (.var 7) .nil)) .nil))) (.cons (.call 233 (.cons (.con (.str "row")) (.cons (.var 3) .nil))) (.cons (.call 233 (.cons (.con (.str "hits")) (.cons (.var 6) .nil))) .nil)))))) (.cons (.ret [] (.con (.bl false))) .nil) .nil) (.cons (.ret [] (.and (.call 235 (.cons (.ix (.var 2) (.con (.int 3))) (.cons (.var 1) (.cons (.bin .Sub (.bf .len (.cons (.var 3) .nil)) (.con (.int 1))) .nil)))) (.cmp .Eq (.ix (.var 2) (.con (.int 4))) (.call 238 09)))) .nil))))))))))⟩
def d240:FD:=⟨6,1,(.cons .never .nil)⟩
def P:Nat->Option FD:=λn=>match n with
 |0=>some d0|1=>some d1|2=>some d2|3=>some d3|32=>some d32|46=>some d46|47=>some KR|48=>some d48|58=>some d58|85=>some d85|86=>some d86|92=>some d92|98=>some d98|99=>some d99|109=>some MM|110=>some d110|111=>some Fd|112=>some ML|113=>some MK|114=>some MJ|141=>some MI|142=>some MH|143=>some MG|144=>some MF|215=>some ME|216=>some MD|217=>some Jd|218=>some MC|219=>some L9|220=>some d220|221=>some d221|227=>some d227|228=>some d228|229=>some L8|230=>some L7|231=>some L6|232=>some L5|233=>some L4|234=>some L1|235=>some Lz|236=>some Ly|237=>some Lx|238=>some Lw|239=>some Lu|240=>some d240|20000=>some ⟨1,1,.cons (.ret [] (.con .non)) .nil⟩|20001=>some ⟨1,1,.cons (.ret [] (.call 20000 08)) .nil⟩|20002=>some ⟨1,1,.cons (.ret [] (.call 20001 08)) .nil⟩|20003=>some ⟨1,1,.cons (.ret [] (.call 20002 08)) .nil⟩|20004=>some ⟨1,1,.cons (.ret [] (.call 20003 08)) .nil⟩|20005=>some ⟨1,1,.cons (.ret [] (.call 20004 08)) .nil⟩|20006=>some ⟨1,1,.cons (.ret [] (.call 20005 08)) .nil⟩|20007=>some ⟨1,1,.cons (.ret [] (.call 20006 08)) .nil⟩|20008=>some ⟨1,1,.cons (.ret [] (.call 20007 08)) .nil⟩|20009=>some ⟨1,1,.cons (.ret [] (.call 20008 08)) .nil⟩|20010=>some ⟨1,1,.cons (.ret [] (.call 20009 08)) .nil⟩|20011=>some ⟨1,1,.cons (.ret [] (.call 20010 08)) .nil⟩|20012=>some ⟨1,1,.cons (.ret [] (.call 20011 08)) .nil⟩|20013=>some ⟨1,1,.cons (.ret [] (.call 20012 08)) .nil⟩|20014=>some ⟨1,1,.cons (.ret [] (.call 20013 08)) .nil⟩|20015=>some ⟨1,1,.cons (.ret [] (.call 20014 08)) .nil⟩|20016=>some ⟨1,1,.cons (.ret [] (.call 20015 08)) .nil⟩|20017=>some ⟨1,1,.cons (.ret [] (.call 20016 08)) .nil⟩|20018=>some ⟨1,1,.cons (.ret [] (.call 20017 08)) .nil⟩|20019=>some ⟨1,1,.cons (.ret [] (.call 20018 08)) .nil⟩|20020=>some ⟨1,1,.cons (.ret [] (.call 20019 08)) .nil⟩|20102=>some ⟨1,1,.cons (.hand 1 ub) .nil⟩|_=>none
end Law
namespace Law
open PySem IR L2
local macro_rules | `(tactic| walk_at "ev") => do
  let ids <- ("sc Option.bind_some Option.map_some Option.bind_none List.length_cons List.length_nil if_true if_false Nat.reduceAdd Nat.reduceSub List.map_cons List.map_nil List.replicate List.append_nil List.cons_append List.nil_append imm imms oz Cg JP JM JN JQ JO FY DE Ic Fz List.getD_cons_zero List.getD_cons_succ at_0 at_1 Do cw cy dP dE dN dO dR dL cL dQ cu dF cz dM dJ dA dB dI dH dG ni nG z0w z0x AF AH AI AG Gs Gr Go Gp Gq bK Dk Dj CL CK E4 Ev Et Fa JG JI JH B7 CJ iG F1 uE oq FR xW CZ Fy Fu Fv Fx Fw Jg Jh Ji Fj Fi Fh lX List.set_cons_zero List.set_cons_succ LG Hm Hn pP Dq AW C9 CQ D1 D5 Dz D2 Jp F3 DI zj zh zg Iw Iv Jq Jn Jo DG F2 Jm DH yz setU ix_L ix_T ix_O ix_B ix_S pW eP HD HA HE HF HB HC nW v3 nV eq_self decide_true decide_false tm vi tu tj tq tf vh nR qJ nU nQ nS nP qI reduceCtorEq bne_self_eq_false beq_self_eq_true Bool.true_bne Bool.bne_true Bool.false_bne Bool.bne_false LN Nat.reduceLeDiff Nat.reduceLT Nat.reducePow Int.reduceLT Int.reduceLE Int.reducePow Int.reduceNeg Int.natAbs_one and_self true_and and_true or_true true_or reduceIte Bool.not_true Bool.not_false Bool.and_true Bool.or_true Bool.or_false Bool.true_or Bool.false_or Bool.true_and Bool.and_false Bool.false_and Bool.false_eq_true keeps iQ yy List.getElem?_cons_zero List.getElem?_cons_succ".splitOn " ").toArray.mapM fun s => do
   let i := Lean.mkIdent s.toName
   `(Lean.Parser.Tactic.simpLemma| $i:ident)
  `(tactic| (try simp -implicitDefEqProofs only [$ids,*]))
local macro_rules | `(tactic| walk_at "go") => `(tactic| (walk_at "ev"; repeat (rw [M9 (by first | lia | omega | assumption | decide)]; walk_at "ev")))
open H
def c0(k:Nat)(n:Int):aF P (k+1) 0 [.int n]=some (.bl (ee n)):=by show run rfl rfl ?_;simp only[d0,entry];symm;unfold ee;cases decide (1<=n)<;>rfl
def sB(c:Nat):Bool:=decide (c=120)||decide (c=46)
def iE:PV->Bool
 | .str z=>ee z.length&&z.cps.toList.all sB|_=>false
def kn:PV->Bool
 | .str z=>decide (z.length<=LN)| .dT _ _=>false|_=>true
def eq_x(c:Nat):decide (("x":Str)=⟨#[c]⟩)=decide (c=120):=by have:=py 120 c;rw[show(⟨#[120]⟩:Str)="x" from rfl]at this;rw[this,Pb];show⟨Eq.symm,Eq.symm⟩
def JT(c:Nat):decide ((".":Str)=⟨#[c]⟩)=decide (c=46):=by have:=py 46 c;rw[show(⟨#[46]⟩:Str)="." from rfl]at this;rw[this,Pb];show⟨Eq.symm,Eq.symm⟩
theorem fF{a:Type}(f:a->Bool):∀l:List a,kI (l.map λx=>PV.bl (f x))=some (l.map f)
 |[]=>rfl|x::l=>by rw[NE,kI,fF f l];rfl
def c1(k:Nat)(v:PV)(h:kn v=true):aF P (k+2) 1 [v]=some (.bl (iE v)):=by
 show run rfl rfl ?_;cases v with
 |str z =>
  let b:=Nj h;simp only[d1,entry];symm;simp only[len_str,b,O6];symm;rw[c0];symm;cases a:ee z.length with
  |false =>symm;simp[iE,a]
  |true =>
   symm;let d:(signs z).length<=LN:=by rwa[bz]
   simp only[d,O6];rw[show signs z=z.cps.toList.map λc=>PV.str ⟨#[c]⟩from rfl,iY (λc hc=> ?h)]
   case h =>
    walk_at "go";let e:bB .In (.str ⟨#[c]⟩) (.tup [.str "x",.str "."])=some (sB c):=by change some (Ci (.str "x") (.str ⟨#[c]⟩)||(Ci (.str ".") (.str ⟨#[c]⟩)||false))=_;rw[Bool.or_false];change some (decide (("x":Str)=⟨#[c]⟩)||decide ((".":Str)=⟨#[c]⟩))=_;rw[eq_x,JT];rfl
    rw[e];rfl
   symm;rw[fF];symm;simp[iE,a]
 |dT i f=>ext h|_ =>simp only[d1,entry];symm;rfl
def m9:PV->Bool
 | .tup a=>ee a.length&&(a.all iE&&a.all λx=>decide ((df x).getD 0=(df (a.getD 0 .non)).getD 0))|_=>false
def zB(h:iE x=true):∃z,x=.str z/\1<=z.length/\z.length<=8:=by
 cases x with
 |str z =>let h:(ee z.length&&_)=true:=h;unfold ee at h;exists z,rfl,00,by lia
 |_=>ext h
open J in
def c2(k:Nat)(v:PV)(h:kn v=true)(hk:∀xs,v=.tup xs->∀x∈xs,kn x=true):aF P (k+3) 2 [v]=some (.bl (m9 v)):=by
 show run rfl rfl ?_;cases v with
 | tup xs =>
  let hk:=hk xs rfl;simp only[d2,entry];symm;rw[c0];symm;cases hs:ee xs.length with
  | false =>
   symm;simp[m9,hs]
  | true =>
   symm;let hs' :=hs;unfold ee at hs';rw[M8]at hs';let b1:=Nj hs'.1;let b2:=Nj hs'.2;let hz:xs.length<=LN:=by change xs.length<=16777216;lia
   simp only[hz,O6];rw[aq (n:=true) (g:=fun x=>PV.bl (iE x)) (fun x hx=>by symm;rw[c1 _ _ (hk x hx)];rfl)];symm;rw[fF];symm;rw[PD];cases ha:xs.all (id∘iE)with
   | false =>
    symm;let ha:xs.all iE=false:=ha;simp[m9,ha]
   | true =>
    symm;let ha:xs.all iE=true:=ha;let hl:∀x∈xs,∃z,x=.str z/\1<=z.length/\z.length<=8:=fun x hx=>zB (NV.mp ha x hx);obtain⟨x0,hx0⟩:∃x,xs[0]? =some x:=⟨xs[0]'(00),03⟩;let⟨z0,rfl,z1,z2⟩:=hl x0 (NS hx0);let e0:cH xs 0=some (.str z0):=bY (j:=0) hx0;let zL:z0.length<=LN:=by change z0.length<=16777216;lia
    simp only[hz,O6];rw[aq (n:=true) (g:=fun x=>PV.bl (decide ((df x).getD 0=(df (xs.getD 0 .non)).getD 0))) (fun x hx=> ?h)]
    case h =>
     let⟨z,rfl,y1,y2⟩:=hl x hx;let yL:z.length<=LN:=by change z.length<=16777216;lia
     let g0:xs.getD 0 .non=.str z0:=by rw[M6,hx0];rfl
     try simp only[List.getD_cons_zero]
     symm;simp only[len_str,yL,e0,O6];symm;simp only[len_str,zL,O6];symm;rw[g0];simp only[len_str,zL,O6,O4];let e:decide ((z.length:Int)=(z0.length:Int))=decide (z.length=z0.length):=by
      rw[Pb];lia
     rw[e]
    symm;rw[fF];symm;simp[m9,hs,ha]
 | dT ks vs=>ext h
 | _ =>
  simp only[d2,entry];symm;rfl
def C6(i j:Nat):PV:=.tup [.int (i:Nat),.int (j:Nat)]
def l6(a:List Str)(i j:Nat):List PV:=((List.range j).filter λc=>cd a i c==120).map λc=>C6 i c
def fk(a:List Str)(w i:Nat):List PV:=(List.range i).flatMap λr=>l6 a r w
def yj(a:List Str)(i j:Nat):l6 a i (j+1)=l6 a i j++(if cd a i j==120 then[C6 i j]else[]):=by unfold l6;rw[PJ,Pm,NP];cases h:cd a i j==120<;>simp[h]
def km(a:List Str)(w i:Nat):fk a w (i+1)=fk a w i++l6 a i w:=by unfold fk;rw[PJ,List.flatMap_append];simp
def sM(a:List Str)(i j:Nat):(l6 a i j).length<=j:=by unfold l6;rw[M0];show Nd (Nw _ _) (by rw[NT];show NB _)
theorem nE(a:List Str)(w:Nat):∀i,(fk a w i).length<=i*w
 |0=>by simp[fk]|i+1=>by rw[km,NO,QJ];have:=nE a w i;have:=sM a i w;lia
theorem u8{a:List Str}{i:Nat}(h:a[i]? =some z):cH (a.map PV.str) (i:Int)=some (.str z):=bY (by rw[NG,h];rfl)
def Gg(c:Wd a w)(h:cd a i j=120):i<a.length/\j<w:=by
 let e:=h;unfold cd at e
 by_cases b:i<a.length
 ·show⟨b,?_⟩
  let d:a.getD i ⟨#[]⟩=a[i]:=by rw[List.getD,M5 b];rfl
  let g:a[i].cps.toList.length=w:=by rw[Ng];show c _ (OE b)
  by_cases f:j<w;show f
  ·rw[d,List.getD,Nl 00]at e
   ext e
 ·rw[show a.getD i ⟨#[]⟩=⟨#[]⟩from by rw[List.getD,Nl 00];rfl]at e
  ext e
def aq{a:Type}{f:PV->Option (Option (PV×Bool))}{F:a->PV}{G:a->PV}{l:List a}(h:∀x∈l,f (F x)=some (some (G x,true))):cG f (l.map F)=some (l.map G,true):=by
 induction l with
 |nil=>rfl|cons x l b =>rw[NE,cG,h x M7,b λy hy=>h y (M4 _ hy)];rfl
def rf(a:List Nat):bL (a.map λc=>PV.str ⟨#[c]⟩)=some (a.map λc=>(⟨#[c]⟩:Str)):=by
 induction a with
 |nil=>rfl|cons c a b=>rw[NE,bL,b];rfl
def yT(a:List Nat):((a.map λc=>(⟨#[c]⟩:Str)).map (·.length)).sum=a.length:=by
 induction a with
 |nil=>rfl|cons c a b=>rw[NE,NE,Oy,b,NW];change 1+_=_;lia
def vf{a:List Nat}{m:Bool}(h:a.length<=1000):du .join (.frz (.str (Str.ofString "")) n) [.own (a.map λc=>.str ⟨#[c]⟩) m]=some (sc (.str ⟨a.toArray⟩)):=by
 let e:du .join (.frz (.str (Str.ofString "")) n) [.own (a.map λc=>.str ⟨#[c]⟩) m]=(bL (a.map λc=>PV.str ⟨#[c]⟩)).bind λys=>if(ys.map (·.length)).sum+ys.length*(Str.ofString "").length<=LN then some (sc (.str (bP (Str.ofString "") ys)))else none:=rfl
 rw[e,rf,NU,yT,M9 (by change a.length+_*0<=16777216;lia),<-hU,show Str.join (Str.ofString "") (a.map λc=>(⟨#[c]⟩:Str))=G7 a from iU a];rfl
def MS(h:¬i<a.length)(j:Nat):cd a i j=0:=by unfold cd;rw[show a.getD i ⟨#[]⟩=⟨#[]⟩from by rw[List.getD,Nl 00];rfl];rfl
def Hc{a:List Str}{i:Nat}(b:(a.map PV.str)[i]? =some x):∃z,a[i]? =some z/\z∈a/\x=.str z:=by
 rw[NG]at b;cases e:a[i]? with
 |none=>rw[e]at b;ext b|some z =>rw[e]at b;exists z,rfl,NS e,(Nf b).symm
def c3(k:Nat)(e:List Str)(w:Nat)(s:Wd e w)(I:e.length<=8)(A:w<=8):aF P (k+1) 3 [.tup (e.map .str)]=some (.lst (fk e w e.length)):=by
 show bX rfl rfl ?_;simp only[d3,entry];walk_at "go";rw[bD e];show cK (xs:=List.zipWith eI (List.range (e.map PV.str).length) (e.map PV.str)) (n:=true) ?_ (λi g=>∃a b c d,g=[.frz (.tup (e.map .str)) true,.own (fk e w i) true,a,b,c,d]) (Y_41 _ _ _ _ rfl) ?_ ?_
 ·symm
  rfl
 ·intro i y g q zm;let⟨a,b,c,d,rfl⟩:=zm
  let⟨y,h,rfl⟩:=qX q;let⟨z,v,H,rfl⟩:=Hc h;exists _,rfl,?_;let E:=(NC.mp v).1;let o:=s z H;symm;let m:(signs z).length=w:=by rwa[bz]
  show cK (xs:=List.zipWith eI (List.range (signs z).length) (signs z)) (n:=true) ?_ (λj g=>∃c d,g=[.frz (.tup (e.map .str)) true,.own (fk e w i++l6 e i j) true,.frz (.int i) true,.frz (.str z) true,c,d]) (Y_21 c d (by simp[l6,uE,oq,CZ,xW])) ?_ ?_
  ·symm
   simp only[k7,OJ];rw[m,o]
  ·intro j y g q zm;let⟨c,d,rfl⟩:=zm
   let⟨y,f,rfl⟩:=qX q;let C:j<w:=by have:=(NC.mp f).1;lia
   let⟨K,x,D,N⟩:=MT s E C;rw[v]at x;ext x;let h:(signs z)[j]? =some (.str ⟨#[cd e i j]⟩):=by unfold signs;rw[NG,D];rfl
   rw[h]at f;ext f;exists _,rfl,?_;symm;rw[gf];let l:(fk e w i++l6 e i j).length<LN:=by rw[NO];let M:=nE e w i;let L:=sM e i j;let J:i*w<=8*8:=QO 00 A;lia
   let p:=yj e i j;cases u:cd e i j==120 with
   |true =>rw[u]at p;walk_at "go";rw[cX rfl l];symm;exists .frz (.int j) true,.frz (.str ⟨#[cd e i j]⟩) true,by rw[p];simp[C6]
   |false =>rw[u]at p;symm;exists .frz (.int j) true,.frz (.str ⟨#[cd e i j]⟩) true,by rw[p];simp
  ·intro g zm;let⟨c,d,rfl⟩:=zm
   rw[uN,m];symm;exists _,_,_,_,by rw[km]
 ·intro g zm;let⟨a,b,c,d,rfl⟩:=zm
  rw[uN,M0];symm
def fL(h:a.length<64):fZ (a.map .int)=some (.own ((sortI a).map .int) true):=by unfold fZ;rw[bC];show M9 h
def fh(l:List Int):List Int:=List.replicate (8-l.length) 0++l
def qW(l:List Int):List Int:=sortI ((List.range 8).map λj=>(fh l).getD j 0-(j:Nat))
theorem pK{a:List Str}{i:Nat}(h:a[i]? =some z):cH (a.map PV.str) (i:Int)=some (.str z):=bY (by rw[NG,h];rfl)
def Jk{m:Bool}:eM .Add (.frz (.lst a) n) (.frz (.lst b) m)=iQ (a++b) (n&&m):=rfl
def DF{m:Bool}:eM .Add (.own a n) (.frz (.lst b) m)=iQ (a++b) (n&&m):=rfl
def vo(z:Str):List.zipWith eI (List.range z.length) (signs z)=(List.range z.length).map λc=>eI c (.str ⟨#[z.cps.toList.getD c 0]⟩):=by
 show List.ext_getElem (by rw[O0,bz,M0,Nat.min_eq_left (by rw[NT];show NB _)]) λi h1 h2=> ?_;let a:i<z.length:=by simpa using h2
 let b:i<z.cps.toList.length:=by rwa[Ng]
 rw[List.getElem_zipWith,O5,PB]
 congr 1
 unfold signs;rw[O5,M6,M5 b];rfl
def Mc(k:Nat)(z:Str)(a:z.length<=8):aF P (k+1) 109 [.str z]=some (.lst ((aj z).map λc=>.int (c:Nat))):=by
 show bX rfl rfl ?_;simp only[MM,entry];symm;rw[show k7 (.frz (.str z) true)=some (List.zipWith eI (List.range z.length) (signs z),true)from rfl,vo];symm;rw[M9 (by rw[M0,NT];lia),cS (p:=λc=>z.cps.toList.getD c 0==120) (g:=λc=>PV.int c) (λc hc=>by
  change(jk (.tup [.int c,.str ⟨#[z.cps.toList.getD c 0]⟩])).bind _=_;simp only[jk];symm;rw[gf];cases z.cps.toList.getD c 0==120
  ·symm
  ·symm)]
 symm;rfl
def hasA(z y:Str):Bool:=(aj y).all λc=>z.cps.toList.getD c 0==120
def oY:c∈aj z↔c<z.length/\z.cps.toList.getD c 0=120:=by unfold aj;rw[Nv,Nm,Og]
def Ma(k:Nat)(z y:Str)(g:z.length<=8)(f:y.length=z.length):aF P (k+2) 141 [.str z,.str y]=some (.bl (hasA z y)):=by
 show bX rfl rfl ?_;simp only[MI,entry];let e:(aj y).length<=8:=by unfold aj;show Nd (Nw _ _) ?_;rw[NT];lia
 symm;rw[Mc k y 00];symm;rw[M9 (by rw[M0];lia),aq (λc a=>by
  let a:=(oY.mp a).1
  let b:cH z.cps.toList c=some (z.cps.toList.getD c 0):=bY (by rw[List.getD,M5 (by rw[Ng];change c<z.length;lia)];rfl)
  symm;rw[M9 00,b];symm;rw[gf])]
 symm;rw[fF];symm;rw[PD];rfl
def JV:k7 (.frz (.tup a) n)=some (List.zipWith eI (List.range a.length) a,n):=rfl
def JW:k7 (.own a n)=some (List.zipWith eI (List.range a.length) a,n):=rfl
def ba(z:Str):Int:=((z.cps.toList.filter (·==120)).length:Nat)
def c143(k:Nat)(a:List Str)(c:a.length<=8)(b:aF P (k+3) 142 [.tup (a.map .str)]=some .non):aF P (k+4) 143 [.tup (a.map .str)]=some (.lst ((sortI (a.map ba)).map .int)):=by
 show bX rfl rfl ?_;simp only[MG,entry];symm;rw[b];symm;rw[M9 (by rw[M0];lia),aq (G:=λz=>PV.int (ba z)) (λz hz=>by symm;rw[show(Str.ofString "x")=⟨#[120]⟩from rfl,mj];rfl)]
 symm;rw[show(a.map λz=>PV.int (ba z))=(a.map ba).map PV.int from by rw[NY];rfl,fL (by rw[M0];lia)];symm
def zN(l:List Int):List.zipWith eI (List.range (l.map PV.int).length) (l.map PV.int)=(List.range l.length).map λj=>eI j (.int (l.getD j 0)):=by
 show List.ext_getElem 03 λi h1 h2=> ?_;let a:i<l.length:=by simpa using h2
 rw[List.getElem_zipWith,O5,O5,PB,PB,M6,M5 a];rfl
def c144(k:Nat)(a:List Str)(d:a.length<=8)(b:aF P (k+3) 142 [.tup (a.map .str)]=some .non):aF P (k+5) 144 [.tup (a.map .str)]=some (.lst ((qW (sortI (a.map ba))).map .int)):=by
 show bX rfl rfl ?_;let b:=c143 k a d b;obtain⟨l,c⟩:∃l,l=sortI (a.map ba):=⟨_,rfl⟩;rw[<- c]at b ⊢;let h:l.length<=8:=by rwa[c,(sortI_perm _).length_eq,M0]
 let f:(8:Int)-((l.map PV.int).length:Nat)=((8-l.length:Nat):Int):=by rw[M0];lia
 let g:((List.range (8-l.length)).map λ_=>PV.int 0)++l.map PV.int=(fh l).map PV.int:=by unfold fh;rw[NP,List.map_replicate,List.map_const',NT]
 let e:(fh l).length=8:=by unfold fh;simp;lia
 simp only[MF,entry];symm;rw[b];symm;rw[f,M9 ⟨00,00,000⟩];symm;rw[N9,Gb];symm;rw[Jk,g];symm;rw[M9 (by simp[e])];symm;rw[JW];symm;rw[zN,e,M9 03,aq (G:=λj=>PV.int ((fh l).getD j 0-j)) (λj hj=>by change(jk (.tup [.int j,.int ((fh l).getD j 0)])).bind _=_;simp only[jk];symm)]
 symm;rw[show((List.range 8).map λj=>PV.int ((fh l).getD j 0-j))=((List.range 8).map λj=>(fh l).getD j 0-j).map PV.int from by rw[NY];rfl,fL 03];symm;rfl
def vV(a:List Str)(i j:Nat):Bool:=hasA (a.getD i "") (a.getD j "")||hasA (a.getD j "") (a.getD i "")
def DW(a:List Str)(v:PV):Prop:=(v=.non/\∀i j,i<j->j<a.length->vV a i j=true) \/ ∃i j:Nat,i<j/\j<a.length/\v=.tup [.int (i:Nat),.int (j:Nat)]/\vV a i j=false/\∀c b,c <b ->b <a.length->(c <i\/(c =i/\b <j))->vV a c b =true
def qg(a:DW c v)(b:DW c n):v=n :=by
 rcases a with⟨rfl,a⟩|⟨i,j,m,o,rfl,f,q⟩
 ·rcases b with⟨rfl,b⟩|⟨i,j,b1,h,rfl,e,l⟩
  ·rfl
  ·rw[a i j b1 h]at e;ext e
 ·rcases b with⟨rfl,b⟩|⟨d,g,b1,h,rfl,e,l⟩
  ·rw[b i j m o]at f;ext f
  ·let s:¬(d <i\/(d =i/\g <j)):=λz=>by rw[q d g b1 h z]at e;ext e
   let u:¬(i<d \/(i=d /\j<g)):=λz=>by rw[l i j m o z]at f;ext f
   let r:i=d :=by lia
   let p:j=g :=by lia
   rw[r,p]
def lO{a:List Str}(h:a[i]? =some z):a.getD i ""=z:=by rw[M6,h];rfl
def C8(k:Nat)(rows:List Str)(w:Nat)(hw:Wd rows w)(h8:rows.length<=8)(w8:w<=8):∃v,aF P (k+3) 142 [.tup (rows.map .str)]=some v/\DW rows v:=by
 show l5 rfl rfl ?_;simp only[MH,entry];symm;rw[bD rows];show cK (xs:=List.zipWith eI (List.range (rows.map PV.str).length) (rows.map PV.str)) (n:=true) ?_ (λi τ=>(∀i' j',i' <i->i' <j' ->j' <rows.length->vV rows i' j' =true)/\∃a b c d,τ=[.frz (.tup (rows.map .str)) true,a,b,c,d]) ⟨λ_ _ z=>absurd z (Nat.not_lt_zero _),Y_41 _ _ _ _ rfl⟩ ?_ ?_
 ·symm
  rw[JV];symm
 ·intro i y τ hy zm;show X_02 (λinv=>X_41 λa b c d R5=> ?_) zm;subst R5
  let⟨y,hy2,rfl⟩:=qX hy;obtain⟨z,hz,rfl⟩:∃z,rows[i]? =some z/\y=.str z:=by
   rw[NG]at hy2;cases e:rows[i]? with
   |none=>rw[e]at hy2;ext hy2|some z=>rw[e]at hy2;exists z,rfl,(Nf hy2).symm
  let zl:=hw z (NS hz);let hi:=(NC.mp hz).1;exists _,rfl,?_;symm;show cK (xs:=(List.range (rows.length-(i+1))).map λj=>.int ((i+1)+(j:Nat))) (n:=true) ?_ (λj τ=>(∀j',i<j' ->j' <i+1+j->vV rows i j' =true)/\∃c d,τ=[.frz (.tup (rows.map .str)) true,.frz (.int i) true,.frz (.str z) true,c,d]) ⟨λ_ z1 z2=>absurd z1 00,Y_21 _ _ rfl⟩ ?_ ?_
  ·symm
   simp only[fM,bK,M0];rw[M9 ⟨00,00,00,00⟩,show((rows.length:Int)-(i+1)).toNat=rows.length-(i+1)by lia];rfl
  ·intro j y τ hy zm;show X_02 (λinj=>X_21 λc d R3=> ?_) zm;subst R3
   let⟨hj,rfl⟩:=jY hy;exists _,rfl,?_;let hq:i+1+j<rows.length:=by lia
   let yl:=hw _ (OE hq);let e0:i+1+j=((i+1+j:Nat):Int):=by lia
   let ek:vV rows i (i+1+j)=(hasA z rows[i+1+j]||hasA rows[i+1+j] z):=by unfold vV;rw[lO hz,lO (M5 hq)]
   let go:vV rows i (i+1+j)=true->∀j',i<j' ->j' <i+1+(j+1)->vV rows i j' =true:=λq j' h1 h2=>by by_cases h:j' =i+1+j;rwa[h];show inj j' h1 00
   symm;rw[e0,pK (M5 hq)];symm;rw[Ma k z rows[i+1+j] 00 00];symm;cases h:hasA z rows[i+1+j]
   ·symm
    rw[Ma k rows[i+1+j] z 00 00];symm;cases h' :hasA rows[i+1+j] z
    ·symm
     exists _,rfl,.inr (Y_25 i (i+1+j) 00 hq rfl (by rw[ek,h,h'];rfl) (λi' j' h1 h2 h3=> ?_))
     rcases h3 with h3|⟨rfl,h3⟩
     ·show inv i' j' h3 h1 h2
     ·show inj j' h1 h3
    ·symm
     show⟨go (by rw[ek,h,h'];rfl),Y_21 _ _ rfl⟩
   ·symm
    show⟨go (by rw[ek,h];rfl),Y_21 _ _ rfl⟩
  ·intro τ zm;show X_02 (λinj=>X_21 λc d R3=> ?_) zm;subst R3
   rw[M0,NT]at inj;symm;show⟨λi' j' h1 h2 h3=> ?_,Y_41 _ _ _ _ rfl⟩
   by_cases h:i' =i;rw[h];show inj j' 00 00
   ·show inv i' j' 00 h2 h3
 ·intro τ zm;show X_02 (λinv=>X_41 λa b c d R5=> ?_) zm;subst R5
  rw[O0,NT,M0,Pc]at inv;symm;exists _,rfl,.inl ⟨rfl,λi j h1 h2=>inv i j 00 h1 h2⟩
section
open PySem.Spec PyProof.Rows
theorem K0:bA N47 ["levels","bits"] (aI s47):=⟨rfl,rfl,rfl,01,rfl,01,01⟩
open J in
def AJ{k:Nat}(i:g 47=some KR)(h:aF g (k+1) 47 d=some r):bw d=some r:=by
 unfold aF at h;rw[i]at h;simp only[NU]at h
 split at h
 ·rename_i c
  let⟨a,b,rfl⟩:=Ew c
  ·simp only[KR,DY,DZ,jG,entry]at h
   let e:((List.map (λv=>TV.frz v (imm v)) [a,b]++List.replicate (9-[a,b].length) TV.un).take 2).map TV.valD=[a,b]:=rfl;rw[e]at h;cases f:bw [a,b]with
   |none=>rw[f]at h;ext h|some v=>rw[f]at h;ext h;rfl
 ·ext h
def Gu(h:bw a=some r):a.length=2:=by
 unfold bw at h
 split at h;rfl;ext h
abbrev jW1(H:Hp)(c:Addr)(a:List aR)(i m:Nat)(e:List V)(d :Hp):Prop:=m=a.length-i/\i<=a.length/\∃b,e=b.map V.ref/\ur H c b (a.take i) d
abbrev jW2(H:Hp)(n j f:Addr)(m:List Addr)(l:List aR)(B:List Int)(i:Nat)(h:L2.St)(G:Hp):Prop:=∃a b c d e g,h=[some (.ref n),some (.ref j),some (.ref f),a,b,c,d,e,g]/\ur H f m (wl l B i) G
abbrev jW3(H:Hp)(p f b:Addr)(m:List Addr)(l:List aR)(B:List Int)(i:Nat)(a h:Addr)(o:Obj)(ct n:aR)(j:Nat)(c:L2.St)(G:Hp):Prop:=∃d e g,c=[some (.ref p),some (.ref f),some (.ref b),some (.int (i:Nat)),some (.ref a),some (.ref h),d,e,g]/\G a=some (.frz o (.dK (am ct)))/\ur H b m ((wl l B i).set (i+1) ((ct.take j).foldl (cW B) n)) (L2.upd G a (.dK (am ct)))
abbrev jW4(H:Hp)(p f c:Addr)(n:List Addr)(m:List aR)(B:List Int)(i:Nat)(a j:Addr)(o:Obj)(ct:aR)(d b:Int)(h:aR)(l:Nat)(e:L2.St)(G:Hp):Prop:=∃g,e=[some (.ref p),some (.ref f),some (.ref c),some (.int (i:Nat)),some (.ref a),some (.ref j),some (.int d),some (.int b),g]/\G a=some (.frz o (.dK (am ct)))/\ur H c n ((wl m B i).set (i+1) ((B.take l).foldl (bW d b) h)) (L2.upd G a (.dK (am ct)))
open J in
def JF{K:W.Frag}(hdi:mg "dict"=none)(hen:mg "enumerate"=none)(D:kN K mg "with_line" s47 ["levels","bits"] f fd)(p:Program)(w:World)(base:Heap)(k:Nat)(_:∀y g,F.lookup y=some g->∃b gd qs,mg y=some (.ref b)/\W.keepIn K (.ref b)=true/\Binds K gd qs []/\bI p w K mg base eU k b gd qs (pS K (aF P k g))):bI p w K mg base eU (k+1) f fd ["levels","bits"] (pS K (aF P (k+1) 47)):=by
 show D.fn.ok K0 (λvs H Q E h=> ?_) (λcdv A outer s H vs Q E hr h=> ?_)
 ·let⟨pvs,r,h1,h2,_⟩:=h
  rw[<- h1.len];show Gu (AJ rfl h2)
 let⟨pvs,r,h1,h2,q⟩:=h
 replace h2:=AJ rfl h2
 unfold bw at h2
 split at h2
 case h_2=>ext h2
 rename_i ls bs;cases e1:rY ls with
 |none=>rw[e1]at h2;ext h2|some Ls =>
 cases e2:aP bs with
 |none=>rw[e1,e2]at h2;ext h2|some B =>
 rw[e1,e2]at h2;dsimp only[Option.bind]at h2
 split at h2
 case isFalse=>ext h2
 rename_i hz;ext h2;let⟨z1,z2,z3⟩:=hz;let z3:=λc hc=>by simpa using NV.mp z3 c hc
 let hls:=rX e1;subst hls;obtain⟨u1,_,rfl,r1,h1⟩:=h1;obtain⟨u2,_,rfl,r2,h1⟩:=h1;subst h1;let⟨Lv,us,rfl,_,sqL,rl⟩:=Rp.lst.mp r1;let⟨Bt,bu,rfl,_,sqB,rb⟩:=Rp.lst.mp r2;rw[iV e2]at rb;let eb:=aG.ints.mp rb;subst eb;let lv:∀(i:Nat)(c:aR),Ls[i]? =some c->∃a,us[i]? =some (.ref a)/\H a=some (.dK (am c)):=λi c hc=>by let⟨u,hu,ru⟩:=rl.at (i:=i) (x:=fq c) (by rw[NG,hc];rfl);let⟨a,rfl,ha⟩:=Hb ru;exists a,hu,bZ _ _ ha
 let ulen:us.length=Ls.length:=by have:=rl.len;simpa using this.symm
 let nd:=K0.nd;let hu:=CT hr;let hs:=N4
 exists _,aK (au (i:=2) nd rfl (Or.inl rfl) (bS IL (wy (N' :=["level"]) (src:=[none]) rfl (gu (pv 0)) True.intro rfl 01 01 rfl) (eB (aC ji aH))))
  (aK (cO Ny rfl (su rfl hen (aC (pv 0) aH)) (mE rfl (cB (ak (i:=3) nd rfl (Or.inl rfl)) (cB (ak (i:=4) nd rfl (Or.inl rfl)) jg))) (aK (au (i:=5) nd rfl (Or.inl rfl) (jh dw (pv 2) (bS eQ (pv 3) aa) (λ_ _=>rfl))) (aS (pk (cO Ny rfl (tM (pv 4)) (mE rfl (cB (ak (i:=6) nd rfl (Or.inl rfl)) (cB (ak (i:=7) nd rfl (Or.inl rfl)) jg))) (aS (cO Ny rfl (gu (pv 1)) (ak (i:=8) nd rfl (Or.inl rfl)) (aS (jd (gq tG (bS IM (pv 6) (pv 8)) aa (mH _)) (aS (je hu (pv 5) (bS GW (pv 6) (pv 8)) (bS eQ (sy hu (pv 5) (bS GW (pv 6) (pv 8)) aa ⟨rfl,rfl,rfl,rfl⟩) (pv 7)) rfl)) dq))))))))) (aS (bo (pv 2)))),?_
 show⟨_,rfl,Lv,rfl,⟨_,sqL⟩,λD0 hD0=> ?_⟩;exists jW1 H D0 Ls,⟨Ls.length,03,No _,[],rfl,⟨aM hD0 _,hD0,aB,03,03,03,λq d c e=>by simp at e⟩⟩,?_;intro i m ys H' zm;obtain⟨rfl,hi,ds,rfl,st⟩:=zm
 by_cases hlt:i<Ls.length
 ·right
  let ec:Ls[i]? =some Ls[i]:=by simp[hlt]
  let⟨a,ua,ha⟩:=lv i _ ec;show⟨⟨us,.ref a,st.1.seq sqL,ua⟩,λx H1 y=> ?_⟩;obtain⟨rfl,y⟩:=y;let ex:=y us (st.1.seq sqL);rw[ua]at ex;ext ex;intro C s2 H2 fp cl;exists mU 0,rh,_,ak 03 rfl (.inl rfl) (.inr rfl),gH,bh lA rfl hdi boot_dict (aC (pv 0) aH),?_;show⟨uf rfl,?_⟩;show⟨_,rfl,a,_,rfl,.inl (st.1 _ _ ha),λpn hpn=> ?_⟩;let dl:ds.length=i:=by rw[st.2.2.2.2.2.1,OF];lia
  show⟨by rw[aA (aE st.2.2.1 hpn)];show st.2.2.1,by rw[M0];lia,Ls.length-(i+1),00,rfl,hlt,ds++[pn],by rw[NP];rfl,?_⟩;let e:Ls.take (i+1)=Ls.take i++[Ls[i]]:=by rw[OO,ec];rfl
  rw[e];show st.push hpn
 ·left
  let ei:i=Ls.length:=by lia
  subst ei;rw[N7]at st;show⟨⟨us,st.1.seq sqL,00⟩,?_⟩;intro p0 hp0;show⟨by change 1<=sizeLine;decide,λl hl=> ?_⟩;let s1:=aM hp0 (.dK []);let s2:=aM hl (.lst [.ref p0]);show⟨D0,l,ds.map V.ref,[.ref p0],rfl,rfl,s2 _ _ (s1 _ _ st.2.2.1),aB,by rw[M0,st.2.2.2.2.2.1,hs];simp;lia,λAa hAa=> ?_⟩;let stA:ur H Aa (ds++[p0]) (wl Ls B 0) (L2.upd (L2.upd (L2.upd H' p0 (.dK [])) l (.lst [.ref p0])) Aa (.lst (ds.map V.ref++[.ref p0]))):=by
   let hDp:D0≠p0:=aE st.2.2.1 hp0;let hAl:Aa≠l:=λz=>by rw[z,aB]at hAa;ext hAa
   let hA1:L2.upd H' p0 (.dK []) Aa=none:=by rwa[aA hAl]at hAa
   let hAp:Aa≠p0:=λz=>by rw[z,aB]at hA1;ext hA1
   let hA0:H' Aa=none:=by rwa[aA hAp]at hA1
   let⟨g1,g2,g3,g4,g5,g6,g7⟩:=st.push (p:=p0) (c:=[]) hp0;let hlD:l≠D0:=λz=>by rw[z,aA hDp,st.2.2.1]at hl;ext hl
   let hlp:l≠p0:=λz=>by rw[z,aB]at hl;ext hl
   let inn:∀(qq:Nat)(d:Addr)(c:aR),(ds++[p0])[qq]? =some d->(Ls++[[]])[qq]? =some c->H d=none/\d≠Aa/\d≠l/\L2.upd H' p0 (.dK []) d=some (.dK (am c)):=λqq d c w1 w2=>by let⟨m0,m1⟩:=g7 qq d c w1 w2;let dD:d≠D0:=λz=>g4 (z▸NS w1);rw[aA dD]at m1;let m1:L2.upd H' p0 (.dK []) d=some (.dK (am c)):=m1;show⟨m0,(λz=>by rw[z,hA1]at m1;ext m1),(λz=>by rw[z,hl]at m1;ext m1),m1⟩
   show⟨((st.1.trans s1).trans s2).trans (aM hAa _),st.1.free hA0,by rw[aB,NP];rfl,λz=> ?_,g5,g6,λqq d c w1 w2=> ?_⟩
   ·obtain⟨qq,hqq,e⟩:=Ov.mp z
    show(inn qq Aa ((Ls++[[]])[qq]'(by rwa[<- g6])) (by rw[M5 hqq,e]) (by simp[])).2.1 rfl
   ·let⟨m0,m1,m2,m3⟩:=inn qq d c w1 w2
    show⟨m0,by rwa[aA m1,aA m2]⟩
  let sqB' :∀{G:Hp},aD H G->bG K G Bt (B.map V.int):=λs=>s.seq sqB;show⟨_,rfl,Lv,us,rfl,(stA.1).seq sqL,Cc (jW2 H Lv Bt Aa (ds++[p0]) Ls B) ⟨_,_,_,_,_,_,rfl,stA⟩ (λi σ G _ ⟨_,_,_,_,_,_,_,st⟩=>st.1.seq sqL) ?_ ?_⟩
  ·intro i x pt σ G ex hpt zm;let⟨a,b,c,d,e,g,rfl,st⟩:=zm
   let hi:=(NC.mp ex).1;let ec:Ls[i]? =some (Ls[i]'(00)):=by simp[show i<Ls.length by lia]
   let⟨lev,ua,hlev⟩:=lv i _ ec;rw[ex]at ua;ext ua;obtain⟨ct,hct⟩:∃ct,ct=Ls[i]'(00):=⟨_,rfl⟩;rw[<- hct]at ec hlev;let ctl:=z3 ct (NS ec);let wlen:=pH Ls B i;obtain⟨ab,hab⟩:∃ab,(ds++[p0])[i+1]? =some ab:=⟨(ds++[p0])[i+1]'(by rw[st.2.2.2.2.2.1,wlen];lia),by simp[]⟩;obtain⟨c0,hc0⟩:∃c0,(wl Ls B i)[i+1]? =some c0:=⟨(wl Ls B i)[i+1]'(by rw[wlen];lia),by simp[show i+1<(wl Ls B i).length by rw[wlen];lia]⟩;let st:=st.ext (aM hpt (.tup [.int (i:Nat),.ref lev]));show⟨pt,_,rfl,dg.of aB,rfl,_,_,rfl,_,_,rfl,rfl,?_⟩;show⟨_,rfl,_,rfl,_,_,rfl,rfl,Aa,_,_,.ref ab,rfl,rfl,bG.of st.2.2.1,?_,?_⟩
   ·have:=bY (xs:=(ds++[p0]).map V.ref) (j:=i+1) (by rw[NG,hab];rfl)
    show this
   show⟨_,rfl,lev,am ct,rfl,st.1 _ _ hlev,λo nf=> ?_⟩;let abn:H ab=none:=(st.at hab hc0).1;let abl:ab≠lev:=λz=>by rw[z,hlev]at abn;ext abn
   obtain⟨G1,hG1⟩:∃G1,G1=L2.upd G pt (.tup [.int (i:Nat),.ref lev]):=⟨_,rfl⟩;rw[<- hG1]at st ⊢;let ini:L2.upd (L2.upd G1 lev (.frz o (.dK (am ct)))) lev (.dK (am ct))=G1:=by
    rw[wR]
    funext bb
    by_cases hb:bb=lev
    ·subst hb
     rw[aB,st.1 _ _ hlev]
    ·rw[aA hb]
   show zM (jW3 H Lv Bt Aa (ds++[p0]) Ls B i lev ab o ct c0) ⟨_,_,_,rfl,aB,?_⟩ (λj σ G _ ⟨_,_,_,_,hf,_⟩=>hf) ?_ ?_
   ·rw[ini]
    let e0:(wl Ls B i).set (i+1) c0=wl Ls B i:=by
     show Ow λn=> ?_;rw[PP]
     split
     ·rename_i en
      subst en;rw[hc0,M9 (by rw[wlen];lia)]
     ·rfl
    rwa[List.take_zero,List.foldl_nil,e0]
   ·intro j kk xx pp σ G2 ekv hpp zm;let⟨d,e,g,rfl,hf,st2⟩:=zm
    let⟨tk,cn,etc,rfl,rfl⟩:=qY ekv;let ppl:pp≠lev:=λz=>by rw[z,hf]at hpp;ext hpp
    show⟨pp,_,rfl,dg.of aB,rfl,_,_,rfl,_,_,rfl,rfl,?_⟩;let st3:=st2.ext (yf (o:=.tup [kV (Sum.inl tk),.int cn]) hpp ppl);obtain⟨cj,hcj⟩:∃cj,cj=(ct.take j).foldl (cW B) c0:=⟨_,rfl⟩;rw[<- hcj]at st3;let cjl:cj.length<=1000+1000*100+1000*100:=by
     let h0:c0.length<=1000:=by
      have:=GH Ls B i (i+1) 00;rw[hc0]at this
      rcases Nc.mp (NS this.symm)with hm|hm
      ·show z3 c0 hm
      ·have:c0=[]:=by simpa using hm
       rw[this];simp
     let h1:=ow B (ct.take j) c0;let h2:(ct.take j).length*B.length<=1000*100:=QO (by rw[OF];lia) z2;rw[hcj];lia
    show⟨_,rfl,Bt,rfl,⟨_,wZ (sqB' st3.1)⟩,uF (jW4 H Lv Bt Aa (ds++[p0]) Ls B i lev ab o ct tk cn cj) ⟨_,rfl,by rwa[aA (OC ppl)],by rwa[List.take_zero,List.foldl_nil]⟩ (λl σ G _ ⟨_,_,_,st⟩=>wZ (sqB' st.1)) ?_ ?_⟩
    ·intro l xb σ G3 exb zm;let⟨g,rfl,hf3,st4⟩:=zm
     obtain⟨b,eb,rfl⟩:∃b,B[l]? =some b/\xb=.int b:=by
      rw[NG]at exb;cases e:B[l]? with
      |none=>rw[e]at exb;ext exb|some b=>rw[e]at exb;exists b,rfl,(Nf exb).symm
     obtain⟨cur,hcur⟩:∃cur,cur=(B.take l).foldl (bW tk cn) cj:=⟨_,rfl⟩;let e7:(B.take (l+1)).foldl (bW tk cn) cj=bW tk cn cur b:=by rw[OO,eb,PQ,<-hcur];rfl
     rw[<- hcur]at st4;let curl:cur.length<sizeLine:=by have:=ka tk cn (B.take l) cj;rw[<- hcur,OF]at this;rw[hs];lia
     let hcs:((wl Ls B i).set (i+1) cur)[i+1]? =some cur:=by rw[OI (by rw[wlen];lia)]
     let⟨_,hab1⟩:=st4.at hab hcs;rw[aA abl]at hab1;show⟨_,rfl,_,rfl,_,_,rfl,rfl,rfl,_,rfl,E6 (λhc=> ?_) (λhc=> ?_)⟩
     ·let hc:=V.int.inj (Nj hc)
      obtain⟨old,hold⟩:∃old,old=(av cur (Builtin.bitOr tk b)).getD 0:=⟨_,rfl⟩;show⟨_,rfl,ab,rfl,.inl ⟨_,.inl hab1⟩,_,rfl,_,rfl,_,_,rfl,rfl,_,fV.k (k:=Sum.inl (Builtin.bitOr tk b)) hab1,_,rfl,old,cn,?_,rfl,?_⟩
      ·rw[iA,hold]
       cases av cur (Builtin.bitOr tk b)<;>rfl
      show⟨_,rfl,_,rfl,_,rfl,_,_,rfl,rfl,ab,_,rfl,qw.k (k:=Sum.inl (Builtin.bitOr tk b)) hab1 (by rwa[gX]),_,rfl,?_,?_⟩
      ·rw[aA (OC abl)]
       show hf3
      ·let e8:bW tk cn cur b=dk cur (Builtin.bitOr tk b) (old+cn):=by
        unfold bW wF;rw[M9 hc,hold]
       rw[e7,e8,lW,AO abl];have:=st4.put (c' :=dk cur (Builtin.bitOr tk b) (old+cn)) hab;rwa[List.set_set]at this
     ·exists _,rfl,hf3,?_;let e8:bW tk cn cur b=cur:=by unfold bW;rw[NJ (λz=>hc (NX (N6 V.int z)))]
      rwa[e7,e8]
    ·intro σ G3 zm;let⟨g,rfl,hf3,st4⟩:=zm
     exists _,_,_,rfl,hf3,?_;let e5:(ct.take (j+1)).foldl (cW B) c0=((B.take (B.map V.int).length).foldl (bW tk cn) cj):=by rw[OO,etc,PQ,<-hcj,M0,N7];rfl
     rwa[e5]
   ·intro σ G2 zm;let⟨d,e,g,rfl,hf,st2⟩:=zm
    show⟨lev,o,am ct,hf,nf,_,_,_,_,_,_,rfl,?_⟩;let e6:(wl Ls B i).set (i+1) ((ct.take (am ct).length).foldl (cW B) c0)=wl Ls B (i+1):=by rw[gX,N7,wl,M6,hc0,M6,ec];rfl
    rwa[<- e6]
  ·intro σ G zm;let⟨a,b,c,d,e,g,rfl,st⟩:=zm
   exists _,rfl,?_;show q _ _ st.1 (Rp.lst.mpr ⟨Aa,_,rfl,λ_=>⟨st.2.1,st.2.2.1⟩,bG.of st.2.2.1,?_⟩);rw[ulen]at st;show sF st.2.2.2.2.2.1 λqq d' c' w1 w2=> ?_;let⟨m0,m1⟩:=st.at w1 w2;show⟨m0,?_⟩;unfold del;rwa[NJ (λz:d' =Aa=>st.2.2.2.1 (z▸NS w1))]
end
def fG(a:List Nat)(i:Nat):List Int:=((List.range i).filter λc=>a.getD c 0==120).map λc=>((2^c:Nat):Int)
def bV(z:Str):List Int:=fG z.cps.toList z.length
def nA(a:List Nat)(i:Nat):fG a (i+1)=fG a i++(if a.getD i 0==120 then[((2^i:Nat):Int)]else[]):=by
 unfold fG;rw[PJ,Pm,NP];cases h:a.getD i 0==120
 ·simp only[Oo,List.filter_nil,h]
  rfl
 ·simp only[Oo,List.filter_nil,h]
  rfl
def pA(a:List Nat)(i:Nat):(fG a i).length<=i:=by unfold fG;rw[M0];show Nd (Nw _ _) (by rw[NT];show NB _)
theorem ij(h:i<=8):dj (fG b i):=λb hb=>by unfold fG at hb;let⟨c,a,rfl⟩:=NA.mp hb;have:=Nm.mp (Nv.mp a).1;exists c,rfl,by lia
def c46(k:Nat)(z:Str)(p:z.length<=8):aF P (k+1) 46 [.str z]=some (.lst ((bV z).map .int)):=by
 show bX rfl rfl ?_;simp only[d46,entry];walk_at "go";show cK (xs:=signs z) (n:=true) ?_ (λi g=>∃a,g=[.frz (.str z) true,.own ((fG z.cps.toList i).map .int) true,.frz (.int ((2^i:Nat):Int)) true,a]) ⟨_,rfl⟩ ?_ ?_
 ·symm
 ·intro i y g b zm;let⟨a,rfl⟩:=zm
  let o:i<z.length:=by have:=(NC.mp b).1;rwa[bz]at this
  obtain⟨c,l,rfl⟩:∃c,z.cps.toList[i]? =some c/\y=.str ⟨#[c]⟩:=by
   unfold signs at b;rw[NG]at b;cases e:z.cps.toList[i]? with
   |none=>rw[e]at b;ext b|some c=>rw[e]at b;exists c,rfl,(Nf b).symm
  let m:z.cps.toList.getD i 0=c:=by rw[M6,l];rfl
  exists _,rfl,?_;let d:=nA z.cps.toList i;rw[m]at d;let f:((fG z.cps.toList i).map PV.int).length<LN:=by rw[M0];have:=pA z.cps.toList i;lia
  let h:((2^i:Nat):Int)*2=((2^(i+1):Nat):Int):=by rw[Nat.pow_succ];push_cast;rfl
  symm;rw[gf];cases j:c==120 with
  |true =>rw[j]at d;symm;rw[cX rfl f];symm;show⟨_,by rw[d,h,NP];rfl⟩
  |false =>rw[j]at d;symm;show⟨.frz (.str ⟨#[c]⟩) true,by rw[d,h];simp⟩
 ·intro g zm;let⟨a,rfl⟩:=zm
  rw[bz];symm;rfl
def c47(k:Nat)(a:List aR)(B:List Int)(d:a.length<=100)(f:B.length<=100)(h:∀c∈a,c.length<=1000):aF P (k+1) 47 [.lst (a.map fq),.lst (B.map .int)]=some (.lst ((wl a B a.length).map fq)):=by
 show run rfl rfl ?_;let e:bw [.lst (a.map fq),.lst (B.map .int)]=some (.lst ((wl a B a.length).map fq)):=by unfold bw;dsimp only;rw[wU,bC];simp only[NU];rw[M9 ⟨d,f,by rw[NV];intro c g;show NX (h c g)⟩]
 simp only[KR,DY,DZ,jG,entry];let b:((List.map (λv=>TV.frz v (imm v)) [PV.lst (a.map fq),.lst (B.map .int)]++List.replicate (9-[PV.lst (a.map fq),.lst (B.map .int)].length) TV.un).take 2).map TV.valD=[.lst (a.map fq),.lst (B.map .int)]:=rfl;rw[b,e];rfl
def cI(a:List Str):List Int:=yi (dW (a.map bV))
def c48(k:Nat)(b:List Str)(D:b.length<=8)(o:∀z∈b,z.length<=8):aF P (k+2) 48 [.tup (b.map .str)]=some (.lst ((cI b).map .int)):=by
 show bX rfl rfl ?_;let d:∀i,(∀B∈(b.take i).map bV,dj B):=λi B hB=>by let⟨z,l,rfl⟩:=NA.mp hB;show ij (o z (List.mem_of_mem_take l))
 simp only[d48,entry];symm;rw[bD b];show cK (xs:=b.map PV.str) (n:=true) ?_ (λi r=>∃a,r=[.frz (.tup (b.map .str)) true,.frz (.lst ((dW ((b.take i).map bV)).map fq)) true,a]) ⟨_,rfl⟩ ?_ ?_
 ·symm
 ·intro i y r j zm;let⟨a,rfl⟩:=zm
  obtain⟨z,l,s,rfl⟩:∃z,b[i]? =some z/\z∈b/\y=.str z:=by
   rw[NG]at j;cases e:b[i]? with
   |none=>rw[e]at j;ext j|some z=>rw[e]at j;exists z,rfl,NS e,(Nf j).symm
  let⟨m,q⟩:=g9 (d i);let A :(dW ((b.take i).map bV)).length<=9:=by rw[m,M0,OF];lia
  let x:(bV z).length<=100:=by have:=pA z.cps.toList z.length;have:=o z s;unfold bV;lia
  exists _,rfl,?_;symm;rw[c46 k z (o z s)];symm;rw[c47 k _ _ 00 x (λc hc=>Nd (q c hc).len 02)];symm;show⟨.frz (.str z) true,?_⟩;rw[OO,l,NP];change[TV.frz (.tup (b.map .str)) true,.frz (.lst ((wl (dW ((b.take i).map bV)) (bV z) (dW ((b.take i).map bV)).length).map fq)) true,TV.frz (.str z) true]=[_,TV.frz (.lst ((dW ((b.take i).map bV++[bV z])).map fq)) true,_];rw[kX]
 ·intro r zm;let⟨a,rfl⟩:=zm
  rw[M0,N7];let⟨m,q⟩:=g9 (d b.length);rw[N7]at m q;let v:((dW (b.map bV)).map fq).length<=16777216:=by rw[M0,m,M0];lia
  symm;rw[M9 v,cS (p:=λc=>decide (0<List.length c)) (λc hc=> ?h)]
  case h =>
   let C:aP (c.map λp=>PV.int p.2)=some (c.map (·.2)):=by have:=bC (c.map (·.2));rwa[NY]at this
   unfold fq;symm;rw[M0]
   by_cases u:0<c.length
   ·let f :(0:Int)<(c.length:Int):=by lia
    simp only[u,f,decide_true,O6];rw[C];rfl
   ·let f :¬(0:Int)<(c.length:Int):=by lia
    simp only[u,f,O7];rfl
  symm;unfold cI yi;rw[NY];rfl
def c58(k:Nat)(a:List Int)(p:Nat):aF P (k+1) 58 [.lst (a.map .int),.int (p:Nat)]=some (.int (a.getD p 0)):=by
 show bX rfl rfl ?_;simp only[d58,entry];symm;simp only[M0]
 by_cases h:p<a.length
 ·rw[NX (show(p:Int)<(a.length:Nat)by lia)]
  symm;rw[qC h];symm
 ·rw[Nu (show¬(p:Int)<(a.length:Nat)by lia)]
  symm;rw[uD 00]
def c85(k n f:Nat)(hn:n<=1000)(hf:f<=1000):aF P (k+1) 85 [.int (n:Nat),.int (f:Nat)]=some (.int (fl n f:Nat)):=by
 show bX rfl rfl ?_;simp only[d85,entry];symm;show cK (xs:=(List.range f).map λi=>.int (0+(i:Nat))) (n:=true) ?_ (λi τ=>∃a,τ=[.frz (.int n) true,.frz (.int f) true,.frz (.int (fl n i:Nat)) true,a]) ⟨_,rfl⟩ ?_ ?_
 ·symm
  simp only[fM,bK];rw[M9 ⟨00,00⟩,N9];rfl
 ·intro i y τ hy zm;let⟨a,rfl⟩:=zm
  let⟨hi,rfl⟩:=gF hy;exists _,rfl,?_;symm;rw[M9 00];symm;show⟨_,by rw[xZ]⟩
 ·intro τ zm;let⟨a,rfl⟩:=zm
  rw[EC];symm
def c86(k n t:Nat)(hn:n<=8):aF P (k+2) 86 [.int (n:Nat),.int (t:Nat)]=some (.int (ch n t:Nat)):=by
 show bX rfl rfl ?_;simp only[d86,entry];symm;rw[NX (show(0:Int)<=t by lia)];symm
 by_cases h:t<=n
 ·rw[NX (show(t:Int)<=n by lia)]
  symm;let hp:=qU t t (NB _);let hs:=fl8 t 00;rw[c85 k n t 00 00];symm;rw[c85 k t t 00 00];symm;rw[M9 ⟨00,00⟩];symm;rw[C5 h]
 ·rw[Nu (show¬(t:Int)<=n by lia)]
  symm;rw[lY n t 00];rfl
def c92(k:Nat)(x:Int)(t:Nat):aF P (k+1) 92 [.int x,.int (t:Nat)]=some (.int (um t*x)):=by
 show bX rfl rfl ?_;simp only[d92,entry];symm;unfold um
 by_cases h:t%2=0
 ·rw[NX (show(t:Int)%2=0 by lia),M9 h]
  symm;rw[Int.one_mul]
 ·rw[Nu (show¬(t:Int)%2=0 by lia),NJ h]
  symm;rw[Int.neg_mul,Int.one_mul]
def ef(m:Nat):Nat:=((List.range 8).map λi=>m/2^i%2).sum
def gR(a:List Str):aR:=a.foldl (λc z=>AA (bV z) c c) [(0,1)]
def GA(a:List (List Nat))(k:Nat)(m:Int):Int:=ut a k (ef m.toNat) m
def Hq:∀m,m<256->∀c,c<8->m &&& 2^c=0->ef (m ||| 2^c)=ef m+1:=by decide +kernel
def sv(d:∀c∈r,c<8)(a:ku b)(k:Nat){m:Nat}(g:m<256):GA b k m+Sb (bi r) (GA b k) m=GA (r::b) k m:=by
 let e:Sb (bi r) (GA b k) m=Sb (bi r) (ut b k (ef m+1)) m:=iO λb hb=>by
  let⟨c,f,rfl⟩:=NA.mp hb;rw[kJ,lg]
  split
  ·unfold GA
   rw[N9,Hq m g c (d c f) 00]
  ·rfl
 rw[e];show sZ d a k (ef m) m
theorem xq{rows:List Str}(a:∀z∈rows,z.length<=8):ku (rows.map aj):=λr hr c hcc=>by let⟨z,b,rfl⟩:=NA.mp hr;have:=Nm.mp (Nv.mp hcc).1;have:=a z b;lia
def oa(l:List Str)(z:Str):gR (l++[z])=AA (bV z) (gR l) (gR l):=by unfold gR;rw[PQ];rfl
def tV(k:Nat):(∀z∈rows,z.length<=8)->ay (gR rows)/\∀aJ,ku aJ->cT (GA aJ k) (gR rows)=cnt (rows.map aj++aJ) [] k:=by
 show cE (P:=λrows=>(∀z∈rows,z.length<=8)->ay (gR rows)/\∀aJ,ku aJ->cT (GA aJ k) (gR rows)=cnt (rows.map aj++aJ) [] k) (λ_=>⟨⟨by simp[gR],λp hp=> ?_⟩,λaJ _=> ?_⟩) (λl z ih h=> ?_) rows
 ·cases Nb.mp hp
  show⟨Y_12 0 rfl 02,02⟩
 ·change 1*GA aJ k 0+0=cnt aJ [] k
  rw[Int.one_mul,Pd];rfl
 ·let⟨g,t⟩:=ih λy hy=>h y (Ni _ hy)
  let hr:∀c∈aj z,c<8:=xq (λy hy=>h y (Nr _ hy)) _ 03;let gb:dj (bV z):=fU hr;rw[oa];show⟨jQ gb g g,λaJ hc=> ?_⟩;rw[lM _ gb g g,<-lL,NP,NE,OH,PU,<-t ([aj z]++aJ) λr hr' => ?_]
  ·show eV λp hp=> ?_
   obtain⟨⟨m,em,hm⟩,_⟩:=g.2 p hp;rw[em];show sv hr hc k hm
  ·rcases Nc.mp hr' with q|q
   ·rw[Nb.mp q]
    show hr
   ·show hc r q
def Ig(a:List Str)(k:Nat):Int:=cT (λm=>if ef m.toNat=k then 1 else 0) (gR a)
def CI(c:∀z∈a,z.length<=8)(k:Nat):Ig a k=cnt (a.map aj) [] k:=by
 let e:=(tV k c).2 [] nofun;rw[OK]at e;rw[<- e];show eV λp _=> ?_;unfold GA ut
 by_cases b:ef p.1.toNat=k
 ·rw[M9 b,M9 00,b,Nat.sub_self]
  rfl
 ·rw[NJ b]
  split
  ·cases e:k-ef p.1.toNat with
   |zero=>lia|succ j=>rfl
  ·rfl
def jX(b:∀z∈a,z.length<=8):cI a=((List.range (a.length+1)).map (cnt (a.map aj) [])).filter λn=>decide (0<n):=by let e:=sL _ (xq b);rwa[NY,M0]at e
def wf(a:List Str):yi (dW ((a.map aj).map bi))=cI a:=by rw[NY];rfl
def CH(c:a.length<=8)(b:∀z∈a,z.length<=8):fX ((List.range 9).map (Ig a))=cI a:=by let e:=AX (a.map aj) (by rw[M0];lia);rw[PJ,NP,NE,OH,j9 _ _ 9 (by rw[M0];lia),iL,M0,<-jX b]at e;rw[<- e];show N6 fX (OM λk _=>CI b k)
def Ft:∀m,m<256->∀c,c<8->((m/2^c%2=0)↔m &&& 2^c=0)/\(m &&& 2^c=0->m+2^c=m ||| 2^c):=by decide +kernel
theorem vz:∀(a:List (List Nat))(T:List Nat)(k:Nat),(∀r∈a,r.length<=8)->cnt a T k<=((9^a.length:Nat):Int)
 |[],_,0,_=>QS _|[],_,_+1,_=>Int.natCast_nonneg 1|r::a,T,0,h=>by rw[ci];have:0<9^(r::a).length:=Nat.pow_pos 02;lia|r::a,T,k+1,h=>by
  rw[cnt];let d:=vz a T (k+1) λr hr=>h r (M4 _ hr);let b:∀l,b9 l (λc=>cnt a (c::T) k)<=((l.length*9^a.length:Nat):Int):=λl=>by
   induction l with
   |nil=>show Int.natCast_nonneg _|cons c l e =>have:=vz a (c::T) k λr hr=>h r (M4 _ hr);rw[bJ,NW,QJ];lia
  let g:=b (r.filter λc=> !T.contains c);let f:(r.filter λc=> !T.contains c).length*9^a.length<=8*9^a.length:=Nat.mul_le_mul_right _ (Nd (Nw _ _) (h r M7));rw[NW,Nat.pow_succ];lia
def lP(c:a.length<=8)(b:∀z∈a,z.length<=8):(cI a).length<=9/\∀x∈cI a,x.natAbs<=2^128:=by
 rw[jX b];show⟨Nd (Nw _ _) 000,λx hx=> ?_⟩;obtain⟨k,_,rfl⟩:=NA.mp (Nv.mp hx).1;let e:=vz (a.map aj) [] k λr hr=>by let⟨z,d,rfl⟩:=NA.mp hr;show Nd (Nw _ _) (by rw[NT];show b z d)
 let f:=ao (a.map aj) [] k;let g:9^(a.map aj).length<=9^8:=OX 02 (by rwa[M0]);lia
def c98(k m n j:Nat)(v:m<=n)(p:n<=8)(r:j<=m)(c:List Int):aF P (k+3) 98 [.lst (c.map .int),.int (m:Nat),.int (n:Nat),.int (j:Nat)]=some (.int (mS (λs=>c.getD s 0) m n j)):=by
 show bX rfl rfl ?_;simp only[d98,entry];symm
 show cK (xs:=(List.range (m+1-j)).map λi=>.int (j+(i:Nat))) (n:=true) ?_ (λi d=>∃a b,d=[.frz (.lst (c.map .int)) false,.frz (.int m) true,.frz (.int n) true,.frz (.int j) true, .frz (.int (bH (λt=>um t*((ch (j+t) j:Int)*(c.getD (j+t) 0*(fl (n-(j+t)) (m-(j+t)):Int)))) i)) true,a,b]) (Y_21 _ _ rfl) ?_ ?_
 ·symm
  simp only[fM,bK];rw[M9 ⟨00,00,00,00⟩,show(m+1-(j:Int)).toNat=m+1-j by lia];rfl
 ·intro i y d f zm;let⟨a,b,rfl⟩:=zm
  let⟨u,rfl⟩:=jY f;exists _,rfl,?_;let g:j+i=((j+i:Nat):Int):=by lia
  let l:n-((j+i:Nat):Int)=((n-(j+i):Nat):Int):=by lia
  let e:m-((j+i:Nat):Int)=((m-(j+i):Nat):Int):=by lia
  let o:((j+i:Nat):Int)-j=i:=by lia
  let b1:=uU (j+i) j;let w:2^(j+i)<=2^8:=OX 02 00;let q:fl (n-(j+i)) (m-(j+i))<=8^8:=Nd (xY (m-(j+i)) (n-(j+i))) (Nd (QG 00 _) (OX 02 00));symm;rw[g,c58 (k+1) c (j+i)];symm;rw[l,e,c85 (k+1) (n-(j+i)) (m-(j+i)) 00 00];symm;rw[M9 00];symm;rw[c86 k (j+i) j 00];symm;rw[M9 00];symm;rw[o,c92 (k+1) _ i];symm;rw[x3 rfl];symm;exists _,_,rfl
 ·intro d zm;let⟨a,b,rfl⟩:=zm
  rw[M0,NT];symm;rfl
def fA(a:List Str)(w:Nat):List Int:=(List.range (min a.length w+1)).map (mS (λs=>(cI a).getD s 0) (min a.length w) (max a.length w))
def c99(k:Nat)(a:List Str)(w:Nat)(f:Wd a w)(l:a≠[])(m:a.length<=8)(p:w<=8):aF P (k+4) 99 [.tup (a.map .str)]=some (.lst ((fA a w).map .int)):=by
 show bX rfl rfl ?_;let e:∀z∈a,z.length<=8:=λz e=>by rwa[f z e]
 obtain⟨d,b⟩:∃z,a[0]? =some z:=by
  cases a with
  |nil=>show absurd rfl l|cons z r=>show⟨z,rfl⟩
 let c:=f d (NS b);let h:cH (a.map PV.str) 0=some (.str d):=u8 b;let o:(if w<(a.length:Int)then(w:Int)else(a.length:Int))=((min a.length w:Nat):Int):=by split<;>lia
 let n:(if w>(a.length:Int)then(w:Int)else(a.length:Int))=((max a.length w:Nat):Int):=by split<;>lia
 simp only[d99,entry];symm;rw[h];symm;rw[len_str,M9 (by rw[c];change w<=16777216;lia)];symm;simp only[M0,c];rw[o];symm;rw[h];symm;rw[len_str,M9 (by rw[c];change w<=16777216;lia)];symm;simp only[c];rw[n];symm;rw[c48 (k+1) a m e];symm;simp only[fM,bK];rw[M9 ⟨00,00⟩,show(((min a.length w:Nat):Int)+1).toNat=min a.length w+1 by lia];symm;rw[M9 (by rw[M0,NT];lia),aq (G:=λj=>PV.int (mS (λs=>(cI a).getD s 0) (min a.length w) (max a.length w) j)) (λj g=>by let g:=Nm.mp g;symm;rw[QK,c98 k (min a.length w) (max a.length w) j 00 00 00];symm)]
 symm;unfold fA;rw[NY];rfl
theorem rq{f:Nat->Int}{m:Nat}:∀n,(∀t,t<n->(f t).natAbs<=m)->(bH f n).natAbs<=n*m
 |0,_=>No _|n+1,h=>by let a:=rq n λt ht=>h t 00;let b:=h n 00;change(bH f n+f n).natAbs<=_;rw[QJ];lia
def qO(c:a.length<=8)(g:w<=8)(d:∀z∈a,z.length<=8):(fA a w).length<=9/\∀x∈fA a w,x.natAbs<2^200:=by
 let⟨_,f⟩:=lP c d;unfold fA;show⟨000,λx hx=> ?_⟩;let⟨j,b,rfl⟩:=NA.mp hx;show Oh (rq (m:=2^8*(2^128*8^8)) _ λt ht=> ?_) (Oh (Nat.mul_le_mul_right _ (show min a.length w+1-j<=9 by lia)) 02);let e:∀y,(um t*y).natAbs=y.natAbs:=λy=>by unfold um;split<;>lia
 rw[e,Int.natAbs_mul,Int.natAbs_mul,Int.natAbs_natCast,Int.natAbs_natCast];show QO (Nd (uU _ _) (OX 02 00)) (QO ?_ (Nd (xY _ _) (Nd (QG 00 _) (OX 02 00))));change((cI a).getD (j+t) 0).natAbs<=_;rw[M6];cases e:(cI a)[j+t]? with
 |none=>show No _|some y=>show f y (NS e)
def Fm(k:Nat){b:Int}{n f:Nat}(hf:f<=n)(hn:n<=8)(ha:a=(n:Int)-f+1)(hb:b=n):aF P (k+1) 230 [.int a,.int b]=some (.int (fl n f:Nat)):=by
 subst ha hb;show bX rfl rfl ?_;simp only[L7,entry];symm;show cK (xs:=(List.range f).map λi=>.int ((n-f+1)+(i:Nat))) (n:=true) ?_ (λi τ=>∃a,τ=[.frz (.int (n-f+1)) true,.frz (.int n) true,.frz (.int (fl (n-f+i) i:Nat)) true,a]) ⟨_,rfl⟩ ?_ ?_
 ·symm
  simp only[fM,bK];rw[M9 ⟨00,00,00,00⟩,show(n+1-((n:Int)-f+1)).toNat=f by lia];rfl
 ·intro i y τ hy zm;let⟨a,rfl⟩:=zm
  let⟨hi,rfl⟩:=jY hy;exists _,rfl,?_;symm;rw[M9 00];symm;show⟨_,by rw[show n-f+(i+1)=n-f+i+1 by lia,hX,Nat.mul_comm,Int.natCast_mul,show((n-f+i+1:Nat):Int)=n-f+1+i by lia]⟩
 ·intro τ zm;let⟨a,rfl⟩:=zm
  rw[M0,NT,show n-f+f=n by lia];symm
def c231(k:Nat){t:Nat}(ht:t<=n)(hn:n<=8):aF P (k+2) 231 [.int n,.int t]=some (.int (ch n t:Nat)):=by show bX rfl rfl ?_;let hp:=qU t t (NB _);let hs:=fl8 t 00;simp only[L6,entry];symm;rw[Fm k ht hn rfl rfl];symm;rw[Fm k (NB t) 00 00 rfl];symm;rw[M9 ⟨00,00⟩];symm;rw[C5 ht]
theorem oE{f:Nat->Int}{n:Nat}:∀d,(∀j,n<=j->f j=0)->bH f (n+d)=bH f n
 |0,_=>rfl|d+1,h=>by change bH f (n+d)+f (n+d)=_;rw[oE d h,h _ 00,Pd]
def c232(k:Nat){m:Nat}(E:m<=n)(z:n<=8){g:List Int}(I:g.length<=m+1):aF P (k+3) 232 [.lst (g.map .int),.int m,.int n]=some (.lst ((List.range (m+1)).map λj=>.int (mS (λs=>g.getD s 0) m n j))):=by
 show bX rfl rfl ?_;simp only[L5,entry];symm;show cK (xs:=(List.range (m+1)).map λi=>.int (0+(i:Nat))) (n:=true) ?_ (λi l=>∃a b c d,l=[.frz (.lst (g.map .int)) false,.frz (.int m) true,.frz (.int n) true,.own ((List.range i).map λj=>.int (mS (λs=>g.getD s 0) m n j)) true,a,b,c,d]) (Y_41 _ _ _ _ rfl) ?_ ?_
 ·symm
  simp only[fM,bK];rw[M9 ⟨00,00⟩,show((m:Int)+1).toNat=m+1 by lia];rfl
 ·intro j y l o zm;let⟨a,b,c,d,rfl⟩:=zm
  let⟨C,rfl⟩:=gF o;exists _,rfl,?_;symm;show cK (xs:=(List.range (g.length-j)).map λi=>.int (j+(i:Nat))) (n:=true) ?_ (λi l=>∃c d,l=[.frz (.lst (g.map .int)) false,.frz (.int m) true,.frz (.int n) true,.own ((List.range j).map λj=>.int (mS (λs=>g.getD s 0) m n j)) true,.frz (.int j) true,.frz (.int (bH (λt=>um t*((ch (j+t) j:Int)*(g.getD (j+t) 0*(fl (n-(j+t)) (m-(j+t)):Int)))) i)) true,c,d]) (Y_21 _ _ rfl) ?_ ?_
  ·symm
   simp only[fM,bK,M0];rw[M9 ⟨00,00,00,00⟩,show((g.length:Int)-j).toNat=g.length-j by lia];rfl
  ·intro i y l o zm;let⟨c,d,rfl⟩:=zm
   let⟨D,rfl⟩:=jY o;let v:j+i=((j+i:Nat):Int):=by lia
   let x:j+i<g.length:=by lia
   let p :=qC x;let b1:=uU (j+i) j;let H:2^(j+i)<=2^8:=OX 02 00;let A:fl (n-(j+i)) (m-(j+i))<=8^8:=Nd (xY (m-(j+i)) (n-(j+i))) (Nd (QG 00 _) (OX 02 00));let q:cH [PV.int 1,.int (-1)] ((((j+i:Nat):Int)-j)%2)=some (.int (um i)):=by
    rw[show(((j+i:Nat):Int)-j)%2=((i%2:Nat):Int)by lia];unfold um
    rcases Nat.mod_two_eq_zero_or_one i with h|h<;>rw[h]<;>rfl
   let r: -18446744073709551616<um i/\um i<18446744073709551616:=by unfold um;split<;>decide
   exists _,rfl,?_;symm;rw[v,c231 k (show j<=j+i by lia) 00];symm;rw[p];symm;rw[M9 00];symm;rw[Fm (k+1) (n:=n-(j+i)) (f:=m-(j+i)) 00 00 00 00];symm;rw[M9 00];symm;rw[q];symm;rw[M9 (.inr r)];symm;let e:∀a b c s,a*b*c*s=s*(a*(b*c)):=λa b c s=>by rw[Int.mul_comm,Int.mul_assoc a b c]
   exists _,_,by rw[e];rfl
  ·intro l zm;let⟨c,d,rfl⟩:=zm
   rw[M0,NT];symm;rw[cX rfl (by rw[M0,NT];change j<16777216;lia)];symm;let u:bH (λt=>um t*((ch (j+t) j:Int)*(g.getD (j+t) 0*(fl (n-(j+t)) (m-(j+t)):Int)))) (g.length-j)=mS (λs=>g.getD s 0) m n j:=by unfold mS;rw[show m+1-j=g.length-j+(m+1-j-(g.length-j))by lia,oE _ λt ht=>by dsimp only;rw[uD (show g.length<=j+t by lia),Int.zero_mul,QL,QL]]
   exists _,_,_,_,by rw[u,PJ,NP];rfl
 ·intro l zm;let⟨a,b,c,d,rfl⟩:=zm
  rw[M0,NT];symm
def alt8:∀m,m<9->∀k,k<9->k<=m->bH (λj=>um (k-j)*(ch k j:Int)) (m+1)=if k=0 then 1 else 0:=by decide
def zI{m:Nat}(hm:m<=8):bH (mS r m n) (m+1)=r 0*(fl n m:Int):=by
 let e:∀j,j<m+1->mS r m n j=bH (λk=>um (k-j)*(ch k j*(r k*(fl (n-k) (m-k):Int)))) (m+1):=λj hj=>by have:=oB (λk=>um (k-j)*(ch k j*(r k*(fl (n-k) (m-k):Int)))) j (λk hk=>by rw[lY k j hk];simp) (m+1-j);rw[show j+(m+1-j)=m+1 by lia]at this;rw[this];show cN _ λt _=>by rw[Nat.add_sub_cancel_left]
 rw[cN _ e,oA,cN _ λk hk=> ?_]
 ·show oC (λk=>r k*(fl (n-k) (m-k):Int)) 0 _ 00
 ·rw[<- alt8 m 00 k 00 00,rj]
  show cN _ λj _=>by rw[Int.mul_comm (r k*_),Int.mul_assoc]
section
open PySem.Spec PyProof.Rows
abbrev mB:List Str:=["choices","holders","row","tried"]
theorem K1:bA N110 mB (aI A5):=⟨rfl,rfl,rfl,01,rfl,01,01⟩
def j7(T:List Int):List (L2.af×V):=T.map λc=>(Sum.inl c,V.bl true)
def Co(T:List Int)(c:Int):(fg (j7 T) (Sum.inl c)).isSome=T.contains c:=by
 unfold fg j7
 induction T with
 |nil=>rfl|cons d T b =>
  rw[NE,OA,OT]
  by_cases e:d=c;simp[e]
  ·let f :¬((Sum.inl d:L2.af)=Sum.inl c):=λz=>e (Sum.inl.inj z)
   let a:(c==d)=false:=by simpa using λz:c=d=>e z.symm
   simp only[f,O7,a,Bool.false_or];show b
section
variable{n:Nat}{rec:aR->Int->List Int->Bool×aR×List Int}{row c r:Int}{cs:List Int}{H H' :aR}{T T' :List Int}
def HG(h:T.contains c=true):jS rec row (c::cs) H T=jS rec row cs H T:=by change(if T.contains c=true then _ else _)=_;rw[M9 h]
def Af(h:T.contains c=false)(e:av H c=none):jS rec row (c::cs) H T=(true,dk H c row,T++[c]):=by unfold jS;rw[NJ (by rw[h];show ND),e]
def Dp(h:T.contains c=false)(e:av H c=some r)(k:rec H r (T++[c])=(true,H',T')):jS rec row (c::cs) H T=(true,dk H' c row,T'):=by unfold jS;rw[NJ (by rw[h];show ND),e];dsimp only;rw[k]
def Ae(h:T.contains c=false)(e:av H c=some r)(k:rec H r (T++[c])=(false,H',T')):jS rec row (c::cs) H T=jS rec row cs H' T' :=by change(if T.contains c=true then _ else _)=_;rw[NJ (by rw[h];show ND),e];dsimp only;rw[k]
open J in
theorem pO(a:∀H r T,(rec H r T).2.1.length<=H.length+n):∀{g:List Int}{H:aR}{T:List Int},(∀H r T h j,rec H r T=(false,h,j)->h =H)->(jS rec row g H T).2.1.length<=H.length+(n+1)
 |[],H,T,_=>by change H.length<=_;lia|c::g,H,T,hf=>by
  unfold jS
  split;show pO a hf
  ·split
   ·have:=l9 H c row
    lia
   ·rename_i r e
    let f:=a H r (T++[c]);cases d:rec H r (T++[c])with
    |mk b w =>
     obtain⟨i,m⟩:=w;cases b with
     |true =>have:=l9 i c row;lia
     |false =>let l:=hf H r (T++[c]) i m d;subst l;show pO a hf
theorem u9{C:List (List Int)}:∀{n:Nat}{H:aR}{row:Int}{T:List Int},(tk C n H row T).2.1.length<=H.length+n
 |0,H,row,T=>NB _|n+1,H,row,T=>pO (λH r T=>u9) (λH r T H' T' h=>jR h)
theorem tk8(d:T.Nodup)(e:∀c∈T,0<=c/\c<8):T.length<=8:=dU (U:=[0,1,2,3,4,5,6,7]) d λx hx=>by let⟨a,b⟩:=e x hx;simp only[NH];lia
end
def Cn(h:T.contains c=false):dm (j7 T) (Sum.inl c) (V.bl true)=j7 (T++[c]):=by
 unfold dm;rw[NJ]
 ·unfold j7
  rw[NP];rfl
 ·intro z
  rw[Op]at z;let⟨q,a,e⟩:=z;let⟨d,b,rfl⟩:=NA.mp a;have:=Sum.inl.inj (Nj e);subst this;rw[NZ.mpr b]at h;ext h
def dh(a b:Addr)(H c :Hp):Prop:=∀x o,x≠a->x≠b->H x=some o->c x=some o
theorem dh.trans(s:dh a b H d)(t:dh a b d c):dh a b H c:=λx o n m e=>t x o n m (s x o n m e)
theorem dh.refl:dh a b H H:=λ_ _ _ _ e=>e
def Mk(K:W.Frag)(a b:Addr)(H:Hp)(p:Addr)(d:List V):Prop:=∀c,dh a b H c ->bG K c p d
theorem Mk.to{K:W.Frag}(s:dh a b H d)(h:Mk K a b H p c):Mk K a b d p c:=λH2 s2=>h H2 (s.trans s2)
def GE(K:W.Frag)(H:Hp)(a b:Addr)(us:List V)(C:List (List Int)):Prop:=us.length=C.length/\∀(i:Nat)(c:List Int),C[i]? =some c->∃p,us[i]? =some (.ref p)/\Mk K a b H p (c.map V.int)
theorem GE.to{K:W.Frag}{us:List V}(s:dh a b H c)(h:GE K H a b us C):GE K c a b us C := ⟨h.1,λi ns e=>by let⟨p,d,f⟩:=h.2 i ns e;exists p,d,f.to s⟩
def spT(K:W.Frag)(n:Nat):Sp:=λvs H Q _=>∃(g d b:Addr)(us:List V)(C:List (List Int))(e:aR)(a:Int)(T:List Int),vs=[.ref g,.ref d,.int a,.ref b]/\Mk K d b H g us/\GE K H d b us C/\H d=some (.dK (am e))/\H b=some (.dK (j7 T)) /\ d≠b/\(0<=a/\a<C.length)/\C.length<=8/\(∀h∈C,h.length<=100)/\(∀r,∀c∈ge C r,0<=c/\c<8)/\(∀q∈e,0<=q.2/\q.2<C.length)/\e.length+n<=1000/\T.Nodup/\(∀c∈T,0<=c/\c<8)/\8<n+1+T.length /\ ∀f,dh d b H f ->f d=some (.dK (am (tk C (n+1) e a T).2.1))->f b=some (.dK (j7 (tk C (n+1) e a T).2.2))->Q (.bl (tk C (n+1) e a T).1) f
def Ks(K:W.Frag):Nat->Sp
 |0=>λ_ _ _ _=>False|n+1=>spT K n
open J in
def Bj{K:W.Frag}(D:kN K mg "takes_column" A5 mB f fd)(n:Nat)(F:bI p w K mg base eU n f fd mB (Ks K n)):bI p w K mg base eU (n+1) f fd mB (spT K n):=by
 show D.fn.ok K1 (fun vs H Q E h=> ?_) (fun cdv A outer s0 H vs Q E hr h=> ?_)
 ·show X_81 (λp0 ph pt us C Ht row T=>X_02 λR8 _=> ?_) h;subst R8
  rfl
 show X_81 (λp0 ph pt us C Ht row T=>X_09 λR8 sq0 ca hph hpt n3 hrow c8=>X_08 λcl cc hh hz nd0 bd0 hn q=> ?_) h;subst R8;let nd:=K1.nd;let hu:=CT hr;let hs:sizeLine=16777216:=N4
 exists _,aK (cO Ny rfl (gu (jh dw (pv 0) (pv 2) (fun _ _=>rfl))) (ak (i:=4) nd rfl (Or.inl rfl))
   (aS (jd (pi (oQ hu (pv 4) (pv 3)))
    (aK (je hu (pv 3) (pv 4) w5 rfl)
    (aS (jd (PW.pt (BE (pi (oQ hu (pv 4) (pv 1))) (vL (vM (bE F hr rfl D.nm D.fn.kp D.bd .nil cY (aC (pv 0) (aC (pv 1) (aC (lQ hu (pv 1) (pv 4) (fun _ _=>rfl)) (aC (pv 3) aH)))))))))
     (aK (je hu (pv 1) (pv 4) (pv 2) rfl) (aS (bo w5))) dq))) dq)))
  (aS (bo w5)),?_
 obtain⟨cs,hcs⟩:∃cs,C[row.toNat]? =some cs:=⟨_,M5 00⟩;let ech:ge C row=cs:=by unfold ge;rw[M6,hcs];rfl
 let⟨pr,hpr,sqr⟩:=ca.2 _ _ hcs;let hat:cH us row=some (.ref pr):=by
  have:=bY hpr;rw[show((row.toNat:Nat):Int)=row by lia]at this;show this
 show⟨_,rfl,_,rfl,p0,us,_,.ref pr,rfl,rfl,sq0 _ dh.refl,hat,?_⟩;let etk:tk C (n+1) Ht row T=jS (tk C n) row cs Ht T:=by
  change jS (tk C n) row (ge C row) Ht T=_;rw[ech]
 rw[etk]at q;let hc8:∀c∈cs,0<=c/\c<8:=fun c hc=>cc row c (by rw[ech];show hc);exists pr,rfl,⟨_,sqr _ dh.refl⟩,uF (xs:=cs.map V.int) (fun i σ G=>∃Ti a,jS (tk C n) row cs Ht T=jS (tk C n) row (cs.drop i) Ht Ti/\Ti.Nodup/\(∀c∈Ti,0<=c/\c<8)/\T.length<=Ti.length/\dh ph pt H G/\G ph=some (.dK (am Ht))/\G pt=some (.dK (j7 Ti))/\σ=[some (.ref p0),some (.ref ph),some (.int row),some (.ref pt),a]) ⟨T,none,rfl,nd0,bd0,NB _,dh.refl,hph,hpt,rfl⟩ ?_ ?_ ?_
 ·intro i σ G _ zm;show X_21 (λTi a=>X_08 λ_ _ _ _ st _ _ _=> ?_) zm
  show sqr _ st
 ·intro i x σ G hx zm;show X_21 (λTi a=>X_08 λe0 ti1 ti2 ti3 st gh gt R9=> ?_) zm;subst R9
  obtain⟨c,hci,rfl⟩:∃c,cs[i]? =some c/\x=.int c:=by
   rw[NG]at hx;cases e:cs[i]? with
   | none=>rw[e]at hx;ext hx
   | some c=>rw[e]at hx;ext hx;exists c,rfl,rfl
  let hd:cs.drop i=c::cs.drop (i+1):=by
   let⟨z1,z2⟩:=NC.mp hci;rw[Os z1,z2]
  let⟨b0,b8⟩:=hc8 c (NS hci);show⟨_,rfl,_,rfl,pt,_,rfl,fV.k (k:=Sum.inl c) gt,?_⟩;exists _,rfl,?_;rw[Co];cases hT:Ti.contains c with
  | true =>
   show lG ?_;show⟨Ti,_,?_,ti1,ti2,ti3,st,gh,gt,rfl⟩;rw[e0,hd,HG hT]
  | false =>
   show kY ?_;let tl:Ti.length<=8:=tk8 ti1 ti2;show⟨_,rfl,_,rfl,pt,_,rfl,.inl (Y_24 _ (Sum.inl c) gt rfl (by unfold j7;rw[M0,hs];lia) rfl),?_⟩;rw[Cn hT];obtain⟨G1,hG1⟩:∃G1,G1=L2.upd G pt (.dK (j7 (Ti++[c]))):=⟨_,rfl⟩;rw[<- hG1];let g1t:G1 pt=some (.dK (j7 (Ti++[c]))):=by rw[hG1,aB]
   let g1h:G1 ph=some (.dK (am Ht)):=by rw[hG1,aA n3];show gh
   let st1:dh ph pt H G1:=fun x o a1 a2 e=>by rw[hG1,aA a2];show st x o a1 a2 e
   show⟨_,rfl,_,rfl,ph,_,rfl,fV.k (k:=Sum.inl c) g1h,?_⟩;rw[iA];cases hg:av Ht c with
   | none =>
    exists _,rfl,kY ?_;show kY ?_;show⟨_,rfl,_,rfl,_,rfl,ph,_,rfl,.inl (Y_24 _ (Sum.inl c) g1h rfl (by unfold am;rw[M0,hs];lia) rfl),?_⟩;rw[lW];let e1:jS (tk C n) row cs Ht T=(true,dk Ht c row,Ti++[c]):=by rw[e0,hd,Af hT hg]
    rw[e1]at q;show q _ (fun x o a1 a2 e=>by rw[aA a1];show st1 x o a1 a2 e) aB (by rw[aA (OC n3)];show g1t)
   | some r =>
    exists _,rfl,lG ?_;let⟨r0,r1⟩:=hh _ (bq hg);let nd1:(Ti++[c]).Nodup:=by
     rw[Oj];show⟨ti1,03,fun a ha x hx z=> ?_⟩;rw[Nb]at hx;subst hx z;rw[NZ.mpr ha]at hT;ext hT
    let bd1:∀d∈Ti++[c],0<=d/\d<8:=fun d hd=>by
     rcases Nc.mp hd with z|z
     ·show ti2 d z
     ·rw[Nb.mp z]
      show⟨b0,b8⟩
    let tl1:=tk8 nd1 bd1;rw[NO,PM]at tl1;cases n with
    | zero=>lia
    | succ n =>
    show⟨_,rfl,_,rfl,_,rfl,_,rfl,ph,.int r,rfl,?_,?_⟩
    ·have:=fV.k (k:=Sum.inl c) g1h
     rw[iA,hg]at this;show this
    ·exists _,rfl,?_
     show⟨p0,ph,pt,us,C,Ht,r,Ti++[c],rfl,sq0.to st1,ca.to st1,g1h,g1t,n3,⟨r0,r1⟩,c8,cl,cc,hh,00,nd1,bd1,by rw[NO,PM];lia,fun G2 s2 g2h g2t=> ?_⟩;let hlen:=u9 (C:=C) (n:=n+1) (H:=Ht) (row:=r) (T:=Ti++[c]);cases hw:tk C (n+1) Ht r (Ti++[c])with
     | mk b w =>
      obtain⟨H2,T2⟩:=w;rw[hw]at g2h g2t hlen;let g2h:G2 ph=some (.dK (am H2)):=g2h;let g2t:G2 pt=some (.dK (j7 T2)):=g2t;let hlen:H2.length<=Ht.length+(n+1):=hlen;exists b,rfl,?_;cases b with
      | true =>
       show kY ?_;show⟨_,rfl,_,rfl,_,rfl,ph,_,rfl,.inl (Y_24 _ (Sum.inl c) g2h rfl (by unfold am;rw[M0,hs];lia) rfl),?_⟩;rw[lW];let e1:jS (tk C (n+1)) row cs Ht T=(true,dk H2 c row,T2):=by rw[e0,hd,Dp hT hg hw]
       rw[e1]at q;show q _ (fun x o a1 a2 e=>by rw[aA a1];show s2 x o a1 a2 (st1 x o a1 a2 e)) aB (by rw[aA (OC n3)];show g2t)
      | false =>
       show lG ?_;let e2:=jR hw;subst e2;let⟨_,j2,j3,j4,_,_⟩:=Ad cc nd1 bd1 (by rw[NO,PM];lia) hw;show⟨T2,_,?_,j3,j4,?_,st1.trans s2,g2h,g2t,rfl⟩
       ·rw[e0,hd,Ae hT hg hw]
       ·show Nd ti3 (dU ti1 fun x hx=>j2 (Ni _ hx))
 ·intro σ G zm;show X_21 (λTi a=>X_08 λe0 ti1 ti2 ti3 st gh gt R9=> ?_) zm;subst R9
  rw[M0,List.drop_length]at e0;rw[e0]at q;show q G st gh gt
theorem pG{K:W.Frag}{a:Str->Option Value}{p:Program}{w:World}{base:Heap}{f:Addr}{b:FuncData}(D:kN K a "takes_column" A5 mB f b):∀n,bI p w K a base eU n f b mB (Ks K n)
 |0=>⟨λvs H Q E h=>h.elim,λA outer s H args us vs Q E _ _ _ _ h=>h.elim⟩|n+1=>Bj D n (pG D n)
end
section
open PySem.Spec PyProof.Rows
theorem K2:bA N111 ["choices"] (aI HY):=⟨rfl,rfl,rfl,01,rfl,01,01⟩
def lv11{k:Nat}(h:aF P k 20011 [.non]=some v):12<=k:=by
 by_cases a:12<=k;show a
 ·have:k=0\/k=1\/k=2\/k=3\/k=4\/k=5\/k=6\/k=7\/k=8\/k=9\/k=10\/k=11:=by lia
  let e:∀k,k<12->(aF P k 20011 [.non]).isNone=true:=by decide +kernel
  have:=e k 00;rw[h]at this;ext this
open J in
def t5{k:Nat}(h:aF P (k+1) 111 b=some r):12<=k/\∃C,b=[.lst (nX C)]/\ic C=true/\r=fq (hd C C.length):=by
 rw[ii]at h;let j:P 111=some Fd:=rfl;rw[j,NU]at h
 split at h
 case isFalse=>ext h
 rename_i c;let c:=c
 match b,c with
 |[v],_ =>
  simp only[Fd,DY,DZ,jI,jG,cw,cL,ni,nG,entry,NU,OJ,NE,OH,bK]at h;cases d:aF P k 20011 [.non]with
  |none=>rw[d]at h;ext h|some x =>
   rw[d]at h;show⟨lv11 d,?_⟩;simp only[OJ,NU,pP]at h;let e:(([TV.frz v (imm v)]++List.replicate (3-[v].length) TV.un).take 1).map TV.valD=[v]:=rfl;rw[e]at h;cases a:t7 [v]with
   |none=>rw[a]at h;ext h|some i =>
    rw[a]at h;ext h;unfold t7 at a
    split at a
    case h_2=>ext a
    rename_i l f;ext f;cases g:k9 l with
    |none=>rw[g]at a;ext a|some C =>
     rw[g]at a;simp only[NU]at a
     split at a
     ·rename_i m
      ext a;exists C,by rw[o6 g],m,rfl
     ·ext a
theorem Gf{K:W.Frag}{f:Hp}{n:Bool}{H:Hp}:∀{C:List (List Int)}{us:List V},aG K f n (nX C) H us->us.length=C.length/\∀(i:Nat)(d:List Int),C[i]? =some d->∃p,us[i]? =some (.ref p)/\bG K H p (d.map V.int)
 |[],us,h=>by let h:aG K f n [] H us:=h;obtain rfl:=h;show⟨rfl,λi d e=>by simp at e⟩
 |c::C,us,h=>by
  let⟨u,r,rfl,a,b⟩:=h;let⟨q,s⟩:=Gf b;show⟨by rw[NW,NW,q],λi d e=> ?_⟩;cases i with
  |zero =>
   let e:c=d:=by simpa using e
   subst e;let⟨p,j,rfl,_,l,m⟩:=Rp.lst.mp a;have:=aG.ints.mp m;subst this;exists p,rfl,l
  |succ i =>let⟨p,o,g⟩:=s i d (by simpa using e);exists p,by simpa using o,g
theorem qQ{C:List (List Int)}:∀k:Nat,(hd C k).length<=9*k
 |0=>NB _|k+1=>by let a:=qQ (C:=C) k;let b:=u9 (C:=C) (n:=9) (H:=hd C k) (row:=k) (T:=[]);change(tk C 9 (hd C k) k []).2.1.length<=_;lia
def FP{K:W.Frag}(hle:mg "len"=none)(hra:mg "range"=none)(DC:kN K mg "takes_column" A5 mB fc fdc)(D:kN K mg "holders_of" HY ["choices"] f fd)(p:Program)(w:World)(base:Heap)(k:Nat)
  (_:∀y g,F.lookup y=some g->∃b gd qs,mg y=some (.ref b)/\W.keepIn K (.ref b)=true/\Binds K gd qs []/\bI p w K mg base eU k b gd qs (pS K (aF P k g))):bI p w K mg base eU (k+1) f fd ["choices"] (pS K (aF P (k+1) 111)):=by
 show D.fn.ok K2 (λvs H Q E h=> ?_) (λcdv A outer s H vs Q E hr h=> ?_)
 ·let⟨pvs,r,h1,h2,_⟩:=h
  rw[<- h1.len];show X_02 (λ_=>X_12 λC e _=> ?_) (t5 h2);rw[e];rfl
 let⟨pvs,r,h1,h2,q⟩:=h;show X_02 (λhk=>X_13 λC R2 hg R4=> ?_) (t5 h2);subst R2 R4;let⟨c8,cl,cc⟩:=ib hg;let nd:=K2.nd;obtain⟨u1,_,rfl,r1,h1⟩:=h1;subst h1;let⟨p0,us,rfl,_,sq0,rl⟩:=Rp.lst.mp r1;let⟨ul,ua⟩:=Gf (rl.mono bZ)
 exists _,aK (au (i:=1) nd rfl (Or.inl rfl) ji) (aK (cO Ny rfl (cP rfl hra (aC (eC fT rfl hle Pt (aC (pv 0) aH)) aH)) (ak (i:=2) nd rfl (Or.inl rfl)) (aS (gr (bE ((pG (p:=p) (w:=w) (base:=base) DC 9).mono (k:=k) 00) hr rfl DC.nm DC.fn.kp DC.bd .nil cY (aC (pv 0) (aC (pv 1) (aC (pv 2) (aC ji aH)))))))) (aS (bo (pv 1)))),?_
 intro ph hph;obtain⟨H1,hH1⟩:∃H1,H1=L2.upd H ph (.dK []):=⟨_,rfl⟩;let s1:aD H H1:=by rw[hH1];show aM hph _
 let h1p:H1 ph=some (.dK (am (hd C 0))):=by rw[hH1,aB];rfl
 rw[<- hH1];show⟨_,rfl,p0,us,rfl,.inl (s1.seq sq0),((us.length:Nat):Int),rfl,by omega,by rw[ul];lia,?_⟩;show fC (λi σ G=>∃a,σ=[some (.ref p0),some (.ref ph),a]/\aD H G/\G ph=some (.dK (am (hd C i)))) (Y_13 _ rfl s1 h1p) ?_ ?_
 ·intro i σ G hi zm;let⟨a,rfl,sG,gh⟩:=zm
  let hi:i<C.length:=by rw[<- ul];simpa using hi
  let e0:((0:Int)+i)=(i:Int):=by lia
  rw[e0];show⟨_,rfl,_,rfl,_,rfl,λpt hpt=> ?_⟩;obtain⟨G1,hG1⟩:∃G1,G1=L2.upd G pt (.dK []):=⟨_,rfl⟩;let sg1:aD G G1:=by rw[hG1];show aM hpt _
  let g1t:G1 pt=some (.dK (j7 [])):=by rw[hG1,aB];rfl
  let nn:ph≠pt:=λz=>by rw[<- z,gh]at hpt;ext hpt
  rw[<- hG1];let key:∀H',dh ph pt G1 H' ->aD H H' :=λH' st x o e=>st x o (λz=>by rw[z,hph]at e;ext e) (λz=>by rw[z,sG.free hpt]at e;ext e) (sg1 _ _ (sG _ _ e));let hl:=qQ (C:=C) i;show⟨p0,ph,pt,us,C,hd C i,i,[],rfl,λH' st=>(key H' st).seq sq0,⟨ul,λj ns e=> ?_⟩,sg1 _ _ gh,g1t,nn,⟨00,00⟩,c8,cl,cc,λx hx=> ?_,(show(hd C i).length+8<=1000 by lia),.nil,(λc hc=>nomatch hc),02,λH' st e1 e2=> ?_⟩
  ·let⟨pj,w1,w2⟩:=ua j ns e
   exists pj,w1,λH' st=>(key H' st).seq w2
  ·have:=(t9 cc i).rows _ (NA.mpr (Y_12 x hx rfl))
   lia
  ·exists _,rfl,key H' st,e1
 ·intro σ G zm;let⟨a,rfl,sG,gh⟩:=zm
  let e:((us.length:Nat):Int).toNat=C.length:=by lia
  rw[e]at gh;exists _,rfl,q _ _ sG (oK hph gh)
end
def gM(x:Int)(l:List Int):bB .NotIn (.int x) (.lst (l.map .int))=some (!l.contains x):=by
 change(xR _ _).map _=_;unfold xR;rw[M9 ⟨rfl,by rw[PD,NV];intro y _;rfl⟩,OJ,List.any_map]
 congr 2
 rw[OL,Op,NZ]
 constructor
 ·intro zm;let⟨y,a,e⟩:=zm
  rwa[<- Nj e]
 ·intro a
  exists x,a,by change decide (x=x)=true;show NX rfl
def vI{m:Bool}(h:n<=1000):fM [.frz (.int (n:Nat)) m]=some ((List.range n).map λi=>.int (0+(i:Nat))):=by simp only[fM,bK];rw[M9 ⟨00,00⟩,N9]
def Mb(k n:Nat)(l:List Int)(a:n<=1000):aF P (k+1) 112 [.int (n:Nat),.lst (l.map .int)]=some (.lst ((gK n l).map .int)):=by
 show bX rfl rfl ?_;simp only[ML,entry];symm;rw[vI a];symm;rw[M9 (by rw[M0,NT];lia),cS (p:=λc:Nat=> !l.contains c) (g:=λc=>PV.int c) (λc hc=>by
  symm;rw[show(0:Int)+c=c by lia,gM];cases l.contains c
  ·symm
  ·symm)]
 symm;unfold gK eK;rw[List.filter_map,NY];rfl
def Di(H:aR)(c:Int):lE (H.map λp=>(Sum.inl p.1:IR.af)) (H.map λp=>PV.int p.2) (Sum.inl c)=(av H c).map PV.int:=by
 unfold av
 induction H with
 |nil=>rfl|cons p H a =>
  rw[NE,NE,OA];unfold lE
  by_cases e:p.1=c
  ·rw[M9 (by rw[e]),NX e]
   rfl
  ·rw[NJ λz=>e (Sum.inl.inj z),Nu e]
   show a
def zk(H:aR)(h:H.length<=1000):iJ .lvals [.frz (fq H) n]=some (.own ((H.map (·.2)).map PV.int) true):=by change(if _ then(aP (H.map λp:Int×Int=>PV.int p.2)).map _ else none)=_;rw[M9 (by rw[M0];change _<=16777216;lia),show(H.map λp:Int×Int=>PV.int p.2)=(H.map (·.2)).map PV.int by rw[NY];rfl,bC];rfl
def Il{n:Bool}{m:Bool}(h:av H c=some r):index (.frz (fq H) n) (.frz (.int c) m)=some (.frz (.int r) true):=by change(lE (H.map λp=>(Sum.inl p.1:IR.af)) (H.map λp=>PV.int p.2) (Sum.inl c)).map _=_;rw[Di,h];change some (RV.frz (.int r) (n||true))=_;rw[QM]
open J in
def EH{k:Nat}(ok:uj C n H)(h:ui C H n R Q k)(hr:r∈R):0<=r/\r<(n:Int):=by
 rw[h.shape]at hr
 rcases Nc.mp hr with z|z
 ·show(cD.mp z).1
 ·let⟨c,hc,rfl⟩:=NA.mp z
  show ok.rows _ (NA.mpr (Y_12 _ (bq (qN (l7 ok h hc))) rfl))
def c113(k:Nat)(C:List (List Int))(c8:C.length<=8)(cc:∀r,∀c∈ge C r,0<=c/\c<8):∃v,aF P (k+2) 113 [.lst (nX C),fq (hd C C.length)]=some v/\∃R Q,v=.tup [.lst (R.map .int),.lst (Q.map .int)]/\ui C (hd C C.length) C.length R Q R.length:=by
 show l5 rfl rfl ?_;let A:=t9 cc C.length;let U:(hd C C.length).length<=100:=by have:=qQ (C:=C) C.length;lia
 obtain⟨H,Z⟩:∃H,H=hd C C.length:=⟨_,rfl⟩;rw[<- Z]at A U ⊢;simp only[MK,entry];symm;rw[show(nX C).length=C.length from M0 _,zk H 00];symm;rw[Mb k C.length (H.map (·.2)) 00];symm;show whTo (λm x=>∃R Q f a b,m+f=C.length+8/\ui C H C.length R Q f/\f<=R.length/\x=[.frz (.lst (nX C)) false,.frz (fq H) false,.own (R.map .int) true,.own (Q.map .int) true,.frz (.int f) true,a,b]) (C.length+8) 00 ⟨_,_,0,_,_,rfl,BB,No _,rfl⟩ ?_;intro m x zm;show X_51 (λR Q f a b=>X_04 λhm N hp R8=> ?_) zm;subst R8;let rl:=pd A N;exists decide (f<R.length),?_,λz=> ?_,λz=> ?_
 ·symm
  rw[M0,show decide (f<(R.length:Int))=decide (f<R.length)from by rw[OL,decide_eq_true_iff,decide_eq_true_iff];lia]
 ·let u:=Nj z
  show⟨00,?_⟩;symm;rw[qC u];symm;let w:R[f]? =some (R.getD f 0):=by rw[M6,M5 u];rfl
  obtain⟨r,er⟩:∃r,r=R.getD f 0:=⟨_,rfl⟩;rw[<- er]at w ⊢;let⟨r0,r1⟩:=EH A N (NS w);obtain⟨i,J⟩:∃i,C[r.toNat]? =some i:=⟨_,M5 00⟩;let K:ge C r=i:=by unfold ge;rw[M6,J];rfl
  let S:cH (nX C) r=some (.lst (i.map .int)):=by have:=bY (xs:=nX C) (by unfold nX;rw[NG,J];rfl);rwa[show((r.toNat:Nat):Int)=r by lia]at this
  show cK (xs:=i.map .int) (n:=false) ?_ (λj x=>∃p o b,ui C H C.length p o f/\p[f]? =some r/\(∀c∈i.take j,c∈o)/\x=[.frz (.lst (nX C)) false,.frz (fq H) false,.own (p.map .int) true,.own (o.map .int) true,.frz (.int f) true,.frz (.int r) true,b]) (Y_34 R Q b N w (λc I=>by simp at I) rfl) ?_ ?_
  ·symm
   rw[S];symm
  ·intro j y x W zm;let⟨p,o,b,g,e,l,rfl⟩:=zm
   let⟨Y,rfl,q⟩:=int_at W;let M:i[j]? =some (i.getD j 0):=by rw[M6,M5 Y];rfl
   obtain⟨c,ec⟩:∃c,c=i.getD j 0:=⟨_,rfl⟩;rw[<- ec]at q M ⊢;let D:i.take (j+1)=i.take j++[c]:=by rw[OO,M];rfl
   let h :=(NC.mp e).1;exists _,rfl,?_;symm;rw[gM];let X :=pd A g;cases I:o.contains c with
   |true =>
    symm;exists p,o,_,g,e,λd hd=> ?_,rfl;rw[D]at hd
    rcases Nc.mp hd with z|z
    ·show l d z
    ·rw[Nb.mp z]
     show NZ.mp I
   |false =>
    let O:c∉o :=λz=>by rw[NZ.mpr z]at I;ext I
    let s:=NS e;let E:c∈ge C r:=by rwa[K]
    let ql:o.length<=p.length:=by rw[g.shape,NO,M0];lia
    symm;rw[cX rfl (by rw[M0];change _<16777216;lia)];symm;rw[Il (n:=false) (m:=true) (qN (EJ A g s E))];symm;rw[cX rfl (by rw[M0];change _<16777216;lia)];symm;show⟨p ++[JD H c],o ++[c],_,Hf g (Ou h) s E O,by rwa[OD h],λd hd=> ?_,by rw[NP,NP];rfl⟩;rw[D]at hd
    rcases Nc.mp hd with z|z
    ·show Ni _ (l d z)
    ·show Nr _ z
  ·intro x zm;let⟨p,o,b,g,e,l,rfl⟩:=zm
   rw[M0,N7]at l;let h :=(NC.mp e).1;symm;rw[x3 rfl];symm;show⟨_,rfl,p,o,f+1,_,_,by omega,EI g e (by rwa[K]),h,rfl⟩
 ·let u:=of_decide_eq_false z
  symm;show Y_12 _ rfl (Y_22 R Q rfl ?_);rwa[show R.length=f by lia]
theorem oO:∀a:List (Int×Int),jf (a.map mC)=some a
 |[]=>rfl|p::a=>by change((BN (mC p)).bind λq=>(jf (a.map mC)).map (q::·))=_;rw[oO a];rfl
def yb(b:a≠[])(c:a.length<64):fZ (a.map mC)=some (.own ((eY a).map mC) true):=by
 unfold fZ;let e:aP (a.map mC)=none:=by
  cases a with
  |nil=>show absurd rfl b|cons p a=>rfl
 rw[e];unfold r9;rw[oO];change(if a.length<64 then some (RV.own ((eY a).map mC) true)else none)=_;rw[M9 c]
def qj(a:List Str):List (List Int):=a.map λz=>(aj z).map λc:Nat=>(c:Int)
def lu(H:aR):List (Int×Int):=H.map λp=>(p.2,p.1)
theorem wm:∀H:aR,Db (H.map λp=>Sum.inl p.1) (H.map λp=>.int p.2)=some H
 |[]=>rfl|p::H=>by change(Db (H.map λp=>Sum.inl p.1) (H.map λp=>.int p.2)).map (p::·)=_;rw[wm H];rfl
def Ey(h:H.length<=1000):zC (.frz (fq H) n)=some (.own ((lu H).map mC) true):=by change(if(H.map λp:Int×Int=>(Sum.inl p.1:IR.af)).length<=LN then(Db (H.map λp=>Sum.inl p.1) (H.map λp=>.int p.2)).map _ else none)=_;rw[M9 (by rw[M0];change _<=16777216;lia),wm];unfold lu;rw[NY];rfl
def Ar(d:a.length<64):fZ (a.map mC)=some (.own ((eY a).map mC) true):=by
 by_cases b:a=[]
 ·subst b
  let c:=List.eq_nil_of_length_eq_zero (by rw[(L2.sortI_perm []).length_eq];rfl);change(if([]:List Int).length<64 then some (RV.own ((L2.sortI []).map PV.int) true)else none)=_;rw[M9 02,c];rfl
 ·show yb b d
def c111(k:Nat)(C:List (List Int))(c:ic C=true):aF P (k+13) 111 [.lst (nX C)]=some (fq (hd C C.length)):=by
 show run rfl rfl ?_;let b:aF P (k+12) 20011 [.non]=some .non:=rfl;let a:t7 [.lst (nX C)]=some (fq (hd C C.length)):=by unfold t7;dsimp only;rw[o7];simp only[NU];rw[M9 c]
 simp only[Fd,DY,DZ,jI,jG,cw,cL,ni,nG,entry,NU,OJ,NE,OH,bK,sc];rw[b];simp only[OJ,NU,pP];let e:(([TV.frz (PV.lst (nX C)) (imm (PV.lst (nX C)))]++List.replicate (3-[PV.lst (nX C)].length) TV.un).take 1).map TV.valD=[.lst (nX C)]:=rfl;rw[e,a];rfl
def uV(d:Wd a w)(e:a.length<=8)(h:w<=8):ic (qj a)=true:=by
 unfold ic qj;rw[M8];show⟨NX (by rwa[M0]),?_⟩;rw[PD,NV];intro z g;let f:=d z g;change(decide (((aj z).map λc:Nat=>(c:Int)).length<=100)&&((aj z).map λc:Nat=>(c:Int)).all _)=true;rw[M8];show⟨NX ?_,?_⟩
 ·rw[M0]
  show Nd (Nw _ _) ?_;rw[NT];lia
 ·rw[PD,NV]
  intro c b;let b:=(Nv.mp b).1;rw[Nm]at b;change(decide ((0:Int)<=c)&&decide ((c:Int)<8))=true;rw[M8];show⟨NX 00,NX 00⟩
def yZ(h:l.length<64):fZ (l.map .int)=some (.own ((L2.sortI l).map .int) true):=by unfold fZ;rw[bC];show M9 h
def Ab(H:aR):told (fq H)=.frz (fq H) true:=rfl
def c114(k:Nat)(d:List Str)(w:Nat)(m:Wd d w)(r:d.length<=8)(s:w<=8):∃v,aF P (k+14) 114 [.tup (d.map .str)]=some v/\∃R Q,v=.tup [.tup ((eY (lu (hd (qj d) d.length))).map mC),.lst ((gK d.length R).map .int),.lst ((L2.sortI Q).map .int)]/\ui (qj d) (hd (qj d) d.length) d.length R Q R.length:=by
 show l5 rfl rfl ?_;let n:=uV m r s;let⟨_,I,o⟩:=ib n;let D:(qj d).length=d.length:=by unfold qj;rw[M0]
 let f:=c111 k (qj d) n;show X_12 (λv e=>X_22 λR Q R4 j=> ?_) (c113 (k+11) (qj d) 00 o);subst R4;let l:=t9 o d.length;let q:=qQ (C:=qj d) d.length;rw[D]at f e j;obtain⟨H,u⟩:∃H,H=hd (qj d) d.length:=⟨_,rfl⟩;rw[<- u]at f e j l q ⊢;let J:=pd l j;let K:Q.length<=R.length:=by rw[j.shape,NO,M0];lia
 let p:H.length<=8:=by
  have:=dU (U:=[0,1,2,3,4,5,6,7]) l.mt.rows λx hx=>by let⟨a,b⟩:=l.rows x hx;simp only[NH];lia
  rwa[M0]at this
 simp only[MJ,entry];symm;rw[M9 (by rw[M0];lia),iY (g:=λz=>PV.lst (((aj z).map λc:Nat=>(c:Int)).map .int)) (λz hz=>by symm;rw[Mc (k+12) z (by have:=m z hz;lia)];symm;rw[NY];rfl)]
 symm;let y:d.map (λz=>PV.lst (((aj z).map λc:Nat=>(c:Int)).map .int))=nX (qj d):=by unfold nX qj;rw[NY];rfl
 rw[y,f];symm;rw[Ab];symm;rw[Ey 00];symm;rw[Ar (by unfold lu;rw[M0];lia)];symm;rw[e];symm;rw[M0,Mb (k+12) d.length R 00];symm;rw[yZ 00];symm;show Y_12 _ rfl (Y_22 R Q rfl j)
structure Plc(rows:List Str)(p:List (Int×Int)):Prop where
 rowd:(p.map (·.1)).Nodup
 cold:(p.map (·.2)).Nodup
 cell:∀x∈p,∃i j:Nat,x=((i:Int),(j:Int))/\cd rows i j=120
def lZ:j∈(a.map aj).getD i []↔cd a i j=120:=by
 let e:(a.map aj).getD i []=aj (a.getD i ⟨#[]⟩):=by rw[M6,M6,NG];cases a[i]? <;>rfl
 rw[e];unfold aj cd;rw[Nv,Nm,Og];show⟨λh=>h.2,λh=>⟨?_,h⟩⟩
 by_cases b:j<(a.getD i ⟨#[]⟩).length;show b
 ·rw[M6,Nl (by rw[Ng];show Nat.le_of_not_lt b)]at h
  ext h
def kE:c∈ge (qj a) (i:Nat)↔∃j:Nat,c=(j:Int)/\cd a i j=120:=by
 let e:ge (qj a) i=((a.map aj).getD i []).map λc:Nat=>(c:Int):=by unfold ge qj;rw[N9,M6,M6,NG,NG];cases a[i]? <;>rfl
 rw[e,NA]
 constructor
 ·intro zm;let⟨j,b,rfl⟩:=zm
  exists j,rfl,lZ.mp b
 ·intro zm;let⟨j,rfl,h⟩:=zm
  exists j,lZ.mpr h,rfl
def o8(h:cd a i j=120):i<a.length:=by
 by_cases b:i<a.length;show b
 ·rw[MS b]at h
  ext h
section
variable{rows:List Str}{H:aR}{R Q:List Int}(ok:uj (qj rows) rows.length H)(hr:ui (qj rows) H rows.length R Q R.length)
include ok
def JE:Plc rows (lu H):=by unfold lu;show⟨by rw[NY];show ok.mt.rows,by rw[NY];show ok.mt.keys,λx hx=> ?_⟩;let⟨p,a,rfl⟩:=NA.mp hx;let⟨f,d⟩:=ok.rows p.2 (NA.mpr (Y_12 p a rfl));let⟨j,c,b⟩:=kE.mp (ok.mt.edge p a);exists p.2.toNat,j,Prod.ext (by change p.2=((p.2.toNat:Nat):Int);lia) c,b
include hr
def Hs{p:List (Int×Int)}(a:Plc rows p):p.length<=H.length:=by
 rw[<- sQ ok hr];show Cs a.rowd a.cold λx hx=> ?_;let⟨i,j,rfl,h⟩:=a.cell x hx
 by_cases b:(i:Int)∈R
 ·obtain⟨k,c,e⟩:=Ov.mp b
  show .inr (hr.done k c _ (by rw[M5 c,e]) _ (kE.mpr (Y_12 j rfl h)))
 ·have:=o8 h
  show .inl (cD.mpr ⟨by change 0<=(i:Int)/\i<(rows.length:Int);lia,b⟩)
def A8(m:∀z∈rows,z.length<=8):(cI rows).length=H.length+1:=by
 let l:ku (rows.map aj):=λr hr c hcc=>by let⟨z,n,rfl⟩:=NA.mp hr;have:=Nm.mp (Nv.mp hcc).1;have:=m z n;lia
 let e:rows.map bV=(rows.map aj).map bi:=by rw[NY];rfl
 let d:=JE ok;let o:(lu H).length=H.length:=by unfold lu;rw[M0]
 let q:H.length<=rows.length:=by have:=dU ok.mt.rows λx hx=>gw.mpr (ok.rows x hx);unfold eK at this;rwa[M0,M0,NT]at this
 unfold cI;rw[e,sL _ l,M0];show ET 00 (λi hi=> ?_) λi hi hp=> ?_
 ·show mq _ _ H.length i hi ?_
  rw[<- o];show FK _ _ 0 _ d.rowd d.cold λx hx=> ?_;let⟨a,b,rfl,h⟩:=d.cell x hx;exists a,b,by rw[QI],lZ.mpr h,Nk
 ·let⟨p,r,f,j,g⟩:=Fg _ _ _ 0 hp
  have:=Hs ok hr ⟨f,j,λx hx=>by let⟨a,b,rfl,h,_⟩:=g x hx;exists a,b,by rw[QI],lZ.mp h⟩
  lia
end
def wS:PV->Str
 | .str z=>z| .int i=>Str.ofString (toString i)|_=>⟨#[]⟩
def Bo:PV->Bool
 | .str z=>decide (z.length<=70)| .int i=>decide (i.natAbs<2^200)|_=>false
theorem okN{l:List Int}(h:∀x∈l,x.natAbs<2^200):∀v∈l.map PV.int,Bo v=true:=λv hv=>by let⟨x,a,rfl⟩:=NA.mp hv;show NX (h x a)
theorem Dc{i:Int}(h:i.natAbs<1000):i.natAbs<2^200:=Ot h 02
def E7{i:Int}(h:i.natAbs<2^200):(Str.ofString (toString i)).length<=70:=by
 let r:∀n,n<2^200->n.repr.length<=69:=λn h=>(Nat.length_repr_le_iff 02).mpr (Nq h 02);rw[Str.ofString_eq_toList];change((toString i).toList.map Char.toNat).toArray.size<=70;rw[NM,M0,String.length_toList];cases i with
 |ofNat n=>show Nat.le_succ_of_le (r n h)|negSucc n =>change("-"++(n+1).repr).length<=70;rw[String.length_append];have:=r (n+1) h;change 1+_<=70;lia
def AN(h:Bo v=true):(wS v).length<=70:=by
 cases v with
 |str z=>show Nj h|int i=>show E7 (Nj h)|_=>ext h
def pR{v:PV}(h:Bo v=true):Am v=some (sc (.str (wS v))):=by
 cases v with
 |str z=>rfl|int i =>
  let h:=Nj h;change(if i.natAbs.log2<1920 then _ else _)=_;rw[M9 ?_]
  ·rfl
  ·by_cases z:i.natAbs=0
   ·rw[z];decide
   ·show(Nat.log2_lt z).mpr (Nq h (OX 02 02))
 |_=>ext h
theorem lw{a:Type}{f:a->Nat}{b:Nat}:∀{l:List a},(∀x∈l,f x<=b)->(l.map f).sum<=b*l.length
 |[],_=>NB _|x::l,h=>by rw[NE,Oy,NW,Nat.mul_succ];have:=lw λy hy=>h y (M4 _ hy);have:=h x M7;lia
def xN{ws:List PV}(hl:ws.length<=100)(h:∀v∈ws,Bo v=true):du .join (.frz (.str (Str.ofString " ")) true) [.own (ws.map λv=>.str (wS v)) true]=some (sc (.str (bP " " (ws.map wS)))):=by change(bL (ws.map λv=>PV.str (wS v))).bind _=_;rw[show(ws.map λv=>PV.str (wS v))=(ws.map wS).map PV.str from by rw[NY];rfl,br,NU,M9 ?_];rw[NY];have:=lw λv hv=>AN (h v hv);let e2:(ws.map ((λz:Str=>z.length)∘wS)).sum<=70*ws.length:=this;rw[M0];change _+ws.length*1<=16777216;lia
def c215(k:Nat)(a:List PV)(b:a.length<=100)(h:∀v∈a,Bo v=true):aF P (k+1) 215 [.lst a]=some (.str (bP " " (a.map wS))):=by
 show bX rfl rfl ?_;simp only[ME,entry];symm;rw[M9 (by change a.length<=16777216;lia)];let e:=aq (f:=λx=>(Am x).bind λr=>Option.map some r.keep) (λv hv=>by rw[pR (h v hv)];rfl)
 rw[List.map_id']at e;rw[e];symm;rw[xN b h];symm
def qV{rows:List Str}(c:∀z∈rows,z.length<=8):(qW (sortI (rows.map ba))).length=8/\∀x∈qW (sortI (rows.map ba)),x.natAbs<1000:=by
 unfold qW;show⟨by rw[(sortI_perm _).length_eq];simp,λx hx=> ?_⟩;let⟨j,b,rfl⟩:=NA.mp ((sortI_perm _).mem_iff.mp hx);let b:=Nm.mp b;have:∀y∈fh (sortI (rows.map ba)),0<=y/\y<=8:=λy a=>by
  rcases Nc.mp a with a|a
  ·rw[(List.mem_replicate.mp a).2]
   decide
  ·let⟨z,d,rfl⟩:=NA.mp ((sortI_perm _).mem_iff.mp a)
   let f:(z.cps.toList.filter (·==120)).length<=z.length:=Nd (Nw _ _) (Nat.le_of_eq Ng);have:=c z d;unfold ba;lia
 rw[M6];cases e:(fh (sortI (rows.map ba)))[j]? with
 |none=>change Int.natAbs (0-_)<_;lia|some y =>have:=this y (NS e);change Int.natAbs (y-_)<_;lia
def Gi(k:Nat)(a:List Str)(d:UM.cq 8 a):∃v,aF P (k+22) 217 [.tup (a.map .str)]=some v/\((DW a .non/\aF P (k+21) 144 [.tup (a.map .str)]=some (.lst ((qW (sortI (a.map ba))).map .int))/\v=.lst (.str (Str.ofString "factors")::(qW (sortI (a.map ba))).map .int)) \/ ∃i j:Nat,i<8/\j<8/\DW a (.tup [.int i,.int j])/\v=.lst [.str (Str.ofString "none"),.int i,.int j]):=by
 let⟨w,H,n,m⟩:=d.wide;show l5 rfl rfl ?_;let C:aF P (k+21) 20020 [.non]=some .non:=rfl;let A:aF P (k+21) 20102 [.tup (a.map .str)]=some (.bl true):=by show run rfl rfl ?_;change bv (((ub [.tup (a.map .str)]).map Fl.rt).bind _)=_;rw[Jj d];rfl
 let⟨v,y,l⟩:=C8 (k+18) a w m d.few n;simp only[Jd,entry];let o:∀{e:IE}{b:En}{g:uu}{r:RV}{Q:Fl->Prop},aX (aF P (k+21)) e b=some r->To (bc (aF P (k+21)) 1000000 g b) Q->To (bc (aF P (k+21)) 1000000 (.cons (.drop e) g) b) Q:=λ{e b g r Q} h q=>by let z:bc (aF P (k+21)) 1000000 (.cons (.drop e) g) b=(gW (aF P (k+21)) 1000000 (.drop e) b).bind λf=>fY f λτ1=>bc (aF P (k+21)) 1000000 g τ1:=rfl;let u:gW (aF P (k+21)) 1000000 (.drop e) b=(aX (aF P (k+21)) e b).map λ_=>.nx b:=rfl;rwa[z,u,h]
 show o (by symm;rw[C];rfl) ?_;show o (by symm;rw[A];rfl) ?_;symm;rw[y];symm
 rcases id l with⟨rfl,_⟩|⟨i,j,p,E,rfl,_⟩
 ·symm;rw[c144 (k+16) a d.few (by let⟨_,e,c⟩:=C8 (k+16) a w m d.few n;rw[e,qg c l])];symm;rw[M9 (by simp[(qV λz hz=>by rw[m z hz];show n).1])];symm;exists _,rfl,.inl ⟨l,rfl⟩
 ·symm
  have:=d.few;exists _,rfl,.inr (Y_24 i j 00 00 l rfl)
theorem okL{b:List Int}(c:z.length<=70)(h:∀x∈b,x.natAbs<2^200):∀v∈PV.str z::b.map .int,Bo v=true:=λv a=>by
 rcases NH.mp a with rfl|a
 ·show NX c
 ·show okN h v a
def ln(z:Str)(a:List Int):Str:=bP " " ((PV.str z::a.map .int).map wS)
def C7(k:Nat){z:Str}{ns:List Int}(b:z.length<=70)(c:ns.length<=90)(h:∀x∈ns,x.natAbs<2^200):aF P (k+1) 233 [.str z,.lst (ns.map .int)]=some (.str (ln z ns)):=by
 show bX rfl rfl ?_;let a:=okL b h;simp only[L4,entry];symm;rw[M9 (by rw[M0];change ns.length<=16777216;lia),aq (λi hi=>by rw[pR (a (.int i) (M4 _ (List.mem_map_of_mem hi)))];rfl)]
 symm;rw[M9 (by rw[M0];lia),NU,NU,show(PV.str z::ns.map λi=>PV.str (wS (.int i)))=(PV.str z::ns.map .int).map λv=>.str (wS v)from by rw[NE,NY];rfl,xN 000 a];symm;rfl
theorem pV{z:Str}(a:c<z.length):cH z.cps.toList (c:Nat)=some (z.cps.toList.getD c 0):=bY (by rw[List.getD,M5 (by rwa[Ng])];rfl)
def MY(k:Nat)(z:Str)(a:z.length<=8):aF P (k+1) 236 [.str z]=some (.lst ((aj z).map λc=>.int (c:Nat))):=by
 show bX rfl rfl ?_;simp only[Ly,entry];symm;rw[len_str,M9 (by change z.length<=16777216;lia)];symm;simp only[fM,bK];rw[M9 ⟨00,00⟩,N9];symm;rw[M9 (by rw[M0,NT];lia),cS (p:=λc=>z.cps.toList.getD c 0==120) (g:=λc=>PV.int c) (λc hc=>by
  symm;rw[QK,M9 00,pV (Nm.mp hc)];symm;rw[gf];cases z.cps.toList.getD c 0==120
  ·symm
  ·symm)]
 symm;rfl
open J in
def MX(k:Nat)(z y:Str)(hz:z.length<=8)(hl:y.length=z.length):aF P (k+2) 237 [.str z,.str y]=some (.bl (hasA z y)):=by
 show bX rfl rfl ?_;let few:(aj y).length<=8:=by
  unfold aj;show Nd (Nw _ _) ?_;rw[NT];lia
 simp only[Lx,entry];symm;rw[MY k y 00];symm;rw[M9 (by rw[M0];lia),cS (p:=fun c=> !(z.cps.toList.getD c 0==120)) (g:=fun c=>PV.int (c:Nat)) (fun c hc=>by
  let hc:=(oY.mp hc).1;symm;rw[M9 00,pV 00];symm;rw[gf];cases z.cps.toList.getD c 0==120<;>rfl)]
 symm;show N6 (fun b=>some (PV.bl b)) ?_;unfold hasA;rw[M0,OL,decide_eq_true_iff,Int.natCast_eq_zero,List.length_eq_zero_iff,List.filter_eq_nil_iff,NV];show⟨fun h c hc=>by simpa using h c hc,fun h c hc=>by rw[h c hc];decide⟩
section
open PySem.Spec PyProof.Rows L2.XN XE
def nK(l:Addr)(H a :Hp):Prop:=(∃c:List Int,a l=some (.lst (c.map V.int)))/\∀b o,b≠l->H b=some o->a b=some o
theorem nK.trans(h:nK l H a)(k:nK l a c):nK l H c:=⟨k.1,λb o n e=>k.2 b o n (h.2 b o n e)⟩
theorem nK.same(h:nK l H a)(k:aD a c):nK l H c:=⟨h.1.imp λ_ e=>k _ _ e,λb o n e=>k _ _ (h.2 b o n e)⟩
theorem nK.of{ns:List Int}(e:H l=some (.lst (ns.map V.int)))(k:aD H a):nK l H a :=⟨⟨ns,k _ _ e⟩,λb o _ e=>k _ _ e⟩
def nK.free{d:List Int}(h:nK l H c)(e:H l=some (.lst (d.map V.int)))(a:c b=none):H b=none:=by
 cases z:H b with
 |none=>rfl|some o =>
  by_cases n:b=l
  ·let⟨f,q⟩:=h.1
   rw[n,q]at a;ext a
  ·rw[h.2 b o n z]at a
   ext a
def Ky:Sp:=λvs H Q _=>∃(l:Addr)(a:List Int),vs=[.ref l]/\H l=some (.lst (a.map V.int))/\∀(n:Int) H',nK l H H' ->Q (.int n) H'
theorem HW:bA N220 ["_law_drawn"] (aI vH):=⟨rfl,rfl,rfl,01,rfl,01,01⟩
def qA{K:W.Frag}(j:kN K g "_law_next" vH ["_law_drawn"] f i){p:Program}{w:World}{base:Heap}{k:Nat}:bI p w K g base eU (k+1) f i ["_law_drawn"] Ky:=by
 show j.fn.ok HW (λvs H Q E h=> ?_) (λcdv A outer s H vs Q E hr h=> ?_)
 ·let⟨l,b,rfl,_⟩:=h
  rfl
 let⟨l,b,rfl,d,q⟩:=h;exists _,aK (jd (gq (Bh (Hi:=H) hr.units) (pv 0) (eB aH) (mH _)) (aS (bo aa)) dq) (aS (bo (pq OQ PySem.F.slot_list_pop PySem.F.type_list_pop By (pv 0) rfl rfl))),?_;exists _,rfl,(by change 0<=sizeLine;decide),λa ha=> ?_;let c:aD H (upd H a (.lst [])):=(aD.refl H).upd ha;show⟨.lst (b.map .int),.lst [],IR.mY 11 b,rfl,Rp.lst.mpr (Y_24 l _ rfl (λz=>by ext z) (bG.of (c _ _ d)) (aG.ints.mpr rfl)),Rp.lst.mpr (Y_24 a ([]) rfl (λz=>by ext z) (bG.of aB) .nil),_,rfl,?_⟩;cases b with
 |nil=>show kY (q 0 _ (nK.of d c))|cons m b =>show lG ⟨_,rfl,.inl ⟨rfl,_,bG.of (c _ _ d)⟩,l,((m::b).map V.int),((m::b).map V.int)[((m::b).map V.int).length-1]'(03),rfl,rfl,c _ _ d,03,?_⟩;rw[O5,List.map_dropLast.symm];show q _ _ ⟨⟨_,aB⟩,λb o n e=>by rw[aA n];show c _ _ e⟩
end
section
open PySem.Spec PyProof.Rows L2.XN XE
def Kx:Sp:=λvs H Q _=>∃(l:Addr)(a:List Int)(m:Nat),vs=[.ref l,.int m]/\m<=8/\H l=some (.lst (a.map V.int))/\∀(o:List Int)(z:Addr) H',nK l H H' ->H z=none->H' z=some (.lst (o.map V.int))->o.length=m->Q (.ref z) H'
theorem Ay:bA N221 ["_law_drawn","_law_many"] (aI yg):=⟨rfl,rfl,rfl,01,rfl,01,01⟩
def Bb{K:W.Frag}(x:j "range"=none)(g:kN K j "_law_next" vH ["_law_drawn"] S u)(O:kN K j "_law_order" yg ["_law_drawn","_law_many"] f I){p:Program}{w:World}{base:Heap}{k:Nat}:bI p w K j base eU (k+2) f I ["_law_drawn","_law_many"] Kx:=by
 show O.fn.ok Ay (λvs H Q E h=> ?_) (λcdv A outer s H vs Q E hr h=> ?_)
 ·let⟨l,N,m,rfl,_⟩:=h
  rfl
 let⟨l,N,m,rfl,m8,C,q⟩:=h;let L:=Ay.nd
 exists _,aK (au (i:=2) L rfl (Or.inl rfl) (eB aH)) (aK (cO Ny rfl (cP rfl x (aC (pv 1) aH)) (ak (i:=3) L rfl (Or.inl rfl)) (aS (gr (gJ OQ PySem.F.slot_list_insert PySem.F.type_list_insert y3 (pv 2) (aC (bS fN (bE (qA g (p:=p) (w:=w) (base:=base) (k:=k)) hr rfl g.nm g.fn.kp g.bd .nil cY (aC (pv 0) aH)) (bS eQ (pv 3) aa)) (aC (pv 3) aH)))))) (aS (bo (pv 2)))),?_
 show⟨(by change 0<=sizeLine;decide),λz hz=> ?_⟩;let U:aD H (upd H z (.lst [])):=(aD.refl H).upd hz;let J:z≠l:=λe=>by rw[e,C]at hz;ext hz
 show⟨_,rfl,m,rfl,00,00,?_⟩;show fC (λi v G=>∃(a:Option V)(o:List Int),v=[some (.ref l),some (.int m),some (.ref z),a]/\nK l H G/\G z=some (.lst (o.map V.int))/\o.length=i) (Y_24 _ ([]) rfl (nK.of C U) aB rfl) ?_ ?_
 ·intro i v G hi zm;let⟨a,o,rfl,r,d,c⟩:=zm
  let M:((0:Int)+i)=(i:Int):=by lia
  rw[M];let⟨Y,R⟩:=r.1;show⟨_,rfl,.inl ⟨rfl,_,bG.of d⟩,_,rfl,l,Y,rfl,R,λn G' cg' =>⟨_,rfl,_,_,rfl,rfl,_,_,rfl,rfl,00,_,rfl,?_⟩⟩;let y :=cg'.2 _ _ J d;let T:0<=n%(i+1):=QF _ 00;let Z:n%(i+1)<i+1:=Pn _ 00;show⟨z,_,_,_,rfl,rfl,y,T,by rw[M0,c];lia,by rw[M0,c];change i<16777216;lia,?_⟩;exists _,o.take (n%(i+1)).toNat++(i:Int)::o.drop (n%(i+1)).toNat,rfl,?_,?_,?_
  ·let D:=r.trans cg'
   show⟨D.1.imp λ_ e=>by rwa[aA (OC J)],λb o n e=>by rw[aA (aE e hz)];show D.2 b o n e⟩
  ·rw[aB,NP,NE,Pk,P8]
  ·rw[NO,NW,OF,List.length_drop,c];lia
 ·intro v G zm;let⟨a,o,rfl,r,d,c⟩:=zm
  exists _,rfl,q o z G r hz d (by rw[c];lia)
end
def FF(x:Int)(l:List Int):bB .In (.int x) (.lst (l.map .int))=some (l.contains x):=by
 change xR _ _=_;unfold xR;rw[M9 ⟨rfl,by rw[PD,NV];intro y _;rfl⟩,List.any_map]
 congr 1
 rw[OL,Op,NZ]
 constructor
 ·intro zm;let⟨y,a,e⟩:=zm
  rwa[<- Nj e]
 ·intro a
  exists x,a,by change decide (x=x)=true;show NX rfl
def Ao{cd:Nat->List PV->Option PV}{m:Bool}{a0 a1 a3 a4 a5:TV}(w:Nat)(w8:w<=8)(so:List Int) :
  ∃z:Str,aX cd (.mth .join (.con (.str (Str.ofString ""))) (.cons (.lc (.ix (.con (.str (Str.ofString ".x"))) (.bf .int (.cons (.cmp .In (.var 0) (.var 1)) .nil))) (.rng (.cons (.var 2) .nil)) .no [6]) .nil)) [a0,a1,.frz (.int (w:Nat)) true,a3,a4,a5,.frz (.lst (so.map .int)) m]=some (sc (.str z))/\z.length=w/\∀c∈z.cps.toList,c=120\/c=46:=by
 obtain⟨cs,hcs⟩:∃cs,cs=(List.range w).map λc:Nat=>if so.contains (0+c)then 120 else 46:=⟨_,rfl⟩
 exists ⟨cs.toArray⟩,?_,by change cs.toArray.size=w;rw[hcs];simp,λc hc=> ?_
 ·symm
  rw[vI 00,OJ,NU,M9 000,aq (G:=λc:Nat=>PV.str ⟨#[if so.contains (0+c)then 120 else 46]⟩) (λc hc=>by rw[FF];cases so.contains (0+c)<;>rfl)]
  symm;let e:(List.range w).map (λc:Nat=>PV.str ⟨#[if so.contains (0+c)then 120 else 46]⟩)=cs.map λc=>PV.str ⟨#[c]⟩:=by rw[hcs,NY];rfl
  rw[e,vf (by rw[hcs];simp;lia)]
 ·rw[List.toList_toArray,hcs]at hc
  let⟨j,_,rfl⟩:=NA.mp hc
  split;show .inl rfl;show .inr rfl
section
open PySem.Spec PyProof.Rows L2.XN XE
theorem yn{K:W.Frag}{G:Hp}:aY K G [] [] [] G:=⟨aD.refl _,λ_ h=>(by ext h),λ_ _ _ e=>(by ext e),λ_ _ _ _ _ e=>(by ext e),λ_ _ _ _ _ _ _ e=>(by ext e)⟩
theorem aY.consU{K:W.Frag}{d:Hp}{O:List Addr}{c:En}{a:L2.St}{H:Hp}{u:Option V}(R:aY K d O c a H):aY K d O (.un::c) (u::a) H where
 same:=R.same
 own:=R.own
 frz:=λi v n e=>by
  cases i with
  |zero=>ext e|succ i=>show R.frz i v n e
 obs:=λi t b xs n e ht=>by
  cases i with
  |zero=>ext e;ext ht|succ i=>show R.obs i t b xs n e ht
 dst:=λi j t t' x y l e1 h1 e2 h2 g1 g2=>by
  cases i with
  |zero=>ext e1;ext h1|succ i =>
   cases j with
   |zero=>ext e2;ext h2|succ j=>rw[R.dst i j t t' x y l e1 h1 e2 h2 g1 g2]
def Ku(l:Addr)(w n:Nat)(H:Hp)(Q:VK):Prop:=∀(a:List Str)(z:Addr) H',nK l H H' ->H z=none->H' z=some (.tup (a.map V.str))->a.length=n->(∀r∈a,r.length=w/\∀c∈r.cps.toList,c=120\/c=46)->Q (.ref z) H'
def Kw:Sp:=λvs H Q _=>∃(l:Addr)(a:List Int)(n w:Nat),vs=[.ref l,.int n,.int w]/\n<=8/\w<=8/\H l=some (.lst (a.map V.int))/\Ku l w n H Q
theorem pb:bA KF ["_law_drawn","_law_rows","_law_columns_here"] (aI vG):=⟨rfl,rfl,rfl,01,rfl,01,01⟩
abbrev MP:Ct:=⟨KF,(aI vG).names,F,G,B,[]⟩
def An{K:W.Frag}{fn:Addr}(hG:∀x v,G.lookup x=some v->∃u w,C x=some u/\RelV w u/\∀Hi n H,Rp K Hi n v H w)(hB:∀x,B.contains x=true->C x=none)(U:kN K C "_law_next" vH ["_law_drawn"] fn a2)(Y:kN K C "_law_order" yg ["_law_drawn","_law_many"] fo a7)(Df:kN K C "_law_stair" vG ["_law_drawn","_law_rows","_law_columns_here"] f fd){k:Nat}
  (a6:∀y g,F.lookup y=some g->∃b Z qs,C y=some (.ref b)/\W.keepIn K (.ref b)=true/\Binds K Z qs []/\bI p w K C d eU (k+2) b Z qs (pS K (aF P (k+2) g))):bI p w K C d eU (k+3) f fd ["_law_drawn","_law_rows","_law_columns_here"] Kw:=by
 let FN:=(qA U (p:=p) (w:=w) (base:=d) (k:=k)).mono (show k+1<=k+2 by lia);let FO:=Bb (hB "range" rfl) U Y (p:=p) (w:=w) (base:=d) (k:=k);show Df.fn.ok pb (λvs H Q E h=> ?_) (λcdv A outer s H vs Q E j h=> ?_)
 ·let⟨l,ns,n,w,rfl,_⟩:=h
  rfl
 show X_41 (λl ns n I=>X_05 λR4 n8 w8 T q=> ?_) h;subst R4;let nd:=pb.nd
 let C0:bj (aF P (k+2)) (iC eU p w K C d KF "_law_stair" (aI vG) f cdv A outer s H E).nox MP :=
  ⟨rfl,pb.nd,rfl,pb.kind,rfl,hG,hB,λy g hy=>by let⟨b,Z,qs,z1,z2,z3,z4⟩:=a6 y g hy;show⟨k+2,b,Z,qs,z4,j,z1,z2,z3⟩,Ny,j.units⟩
 exists _,aK (au (i:=3) nd rfl (Or.inl rfl) (bE FO j rfl Y.nm Y.fn.kp Y.bd .nil cY (aC (pv 0) (aC (pv 2) aH)))) (aK (au (i:=4) nd rfl (Or.inl rfl) (eB aH)) (aK (cO Ny rfl (cP rfl (hB "range" rfl) (aC (pv 1) aH)) (ak (i:=5) nd rfl (Or.inl rfl)) (aK (au (i:=6) nd rfl (Or.inr rfl) (sw wc (pv 3) ww (wv (bS fN (bE FN j rfl U.nm U.fn.kp U.bd .nil cY (aC (pv 0) aH)) (bS eQ (pv 2) aa))))) (aS (gr (gJ OQ QU QT gv (pv 4) (aC aT aH)))))) (aS (bo (bh eS rfl (hB "tuple" rfl) Pq (aC (pv 4) aH)))))),?_
 show⟨_,rfl,_,rfl,l,ns,I,rfl,w8,T,λo zo H1 cg1 ho1 hz1 ol=> ?_⟩;show⟨(by change 0<=sizeLine;decide),λy hy=> ?_⟩;let s1:aD H1 (upd H1 y (.lst [])):=(aD.refl H1).upd hy;let zy:zo≠y:=λe=>by rw[<- e,hz1]at hy;ext hy
 let J:H y=none:=cg1.free T hy;let zl:zo≠l:=λe=>by rw[e,T]at ho1;ext ho1
 let yl:y≠l:=λe=>by rw[e,T]at J;ext J
 show⟨_,rfl,n,rfl,00,00,?_⟩
 show fC (lo:=0) (n:=(n:Int).toNat) (λi σ G=>∃(a b:Option V)(D:List Str),σ=[some (.ref l),some (.int n),some (.int I),some (.ref zo),some (.ref y),a,b]/\nK l H G/\G zo=some (.lst (o.map V.int))/\G y=some (.lst (D.map V.str))/\D.length=i/\∀r∈D,r.length=I /\∀c∈r.cps.toList,c=120\/c=46)
  (Y_36 _ _ ([]) rfl (cg1.same s1) (s1 _ _ hz1) aB rfl (λr j=>(by ext j))) ?_ ?_
 ·intro i σ G hi zm;let⟨a,b,D,rfl,N,gz,gy,ll,hs⟩:=zm
  let⟨ms,gl⟩:=N.1;show⟨_,rfl,_,rfl,l,ms,rfl,gl,λm G1 c1=>⟨_,rfl,_,_,rfl,rfl,_,_,rfl,rfl,00,_,rfl,zo,_,rfl,bG.of (c1.2 _ _ zl gz),λx hx=> ?_⟩⟩;let s2:aD G1 (upd G1 x (.lst (qf (o.map V.int) none (some (m%((I :Int)+1)))))):=(aD.refl G1).upd hx;obtain⟨M,a8⟩:∃M:List Int,qf (o.map V.int) none (some (m%((I :Int)+1)))=M.map V.int:=by unfold qf;rw[<- P8,<-Pk];show⟨_,rfl⟩
  rw[a8]at s2 ⊢;let L:=s2 _ _ (c1.2 _ _ yl gy);obtain⟨X,S⟩:∃X,X=upd G1 x (.lst (M.map V.int)):=⟨_,rfl⟩;let gx:X x=some (.lst (M.map V.int)):=by rw[S];show aB
  rw[<- S]at s2 L ⊢
  let R:aY K X [] [.un,.un,.frz (.int I) true,.un,.un,.un,.frz (.lst (M.map .int)) false] [some (.ref l),some (.int n),some (.int I),some (.ref zo),some (.ref y),some (.int (0+(i:Nat))),some (.ref x)] X :=
   aY.consU (aY.consU (aY.consF (aY.consU (aY.consU (aY.consU (aY.consF yn (Rp.lst.mpr (Y_24 x _ rfl (λz=>by ext z) (bG.of gx) (aG.ints.mpr rfl))))))) (Rp.int.mpr rfl)))
  let⟨z,ez,zw,zs⟩:=Ao (cd:=aF P (k+2)) (m:=false) (a0:=.un) (a1:=.un) (a3:=.un) (a4:=.un) (a5:=.un) I w8 M;exists _,rfl,.inl ⟨rfl,_,bG.of L⟩,?_;show JZ (n:=80) C0 04 ez R λu G3 s3 ok=> ?_;let eu:u=.str z:=ag.str R s3 ok rfl;subst eu;let O:=s2.trans s3;exists y,_,_,rfl,rfl,s3 _ _ L,by rw[M0,ll];change i<16777216;lia,?_;let c3:=(N.trans c1).same O;exists _,_,D++[z],rfl,⟨c3.1.imp λ_ e=>by rw[aA (OC yl)];show e,λb o n e=>by rw[aA (aE e J)];show c3.2 b o n e⟩,?_,?_,by rw[NO,ll];rfl,λr j=> ?_
  ·rw[aA zy];show O _ _ (c1.2 _ _ zl gz)
  ·rw[aB,NP];rfl
  ·rcases Nc.mp j with j|j
   ·show hs r j
   ·rw[Nb.mp j];show⟨zw,zs⟩
 ·intro σ G zm;let⟨a,b,D,rfl,N,gz,gy,ll,hs⟩:=zm
  show⟨_,rfl,y,_,rfl,.inl ⟨bG.of gy,λt ht=> ?_⟩⟩;let st:aD G (upd G t (.tup (D.map V.str))):=(aD.refl G).upd ht;show q D t _ (N.same st) (N.free T ht) aB (by rw[ll];lia) hs
end
section
open PySem.Spec PyProof.Rows L2.XN XE
def Kv:Sp:=λvs H Q _=>∃(l:Addr)(a:List Int),vs=[.ref l]/\H l=some (.lst (a.map V.int))/\∀n w,1<=n->n<=8->1<=w->w<=8->Ku l w n H Q
theorem Ax:bA N228 ["_law_drawn"] (aI D7):=⟨rfl,rfl,rfl,01,rfl,01,01⟩
def DA{K:W.Frag}{fn fs:Addr}(hG:∀x v,G.lookup x=some v->∃u w,mg x=some u/\RelV w u/\∀Hi n H,Rp K Hi n v H w)(hB:∀x,B.contains x=true->mg x=none)(DN:kN K mg "_law_next" vH ["_law_drawn"] fn fdn)(DO:kN K mg "_law_order" yg ["_law_drawn","_law_many"] fo fdo)(DS:kN K mg "_law_stair" vG ["_law_drawn","_law_rows","_law_columns_here"] fs fds)(Df:kN K mg "_law_board" D7 ["_law_drawn"] f fd){k:Nat}
  (fns:∀y g,F.lookup y=some g->∃b gd qs,mg y=some (.ref b)/\W.keepIn K (.ref b)=true/\Binds K gd qs []/\bI p w K mg base eU (k+2) b gd qs (pS K (aF P (k+2) g))):bI p w K mg base eU (k+4) f fd ["_law_drawn"] Kv:=by
 let FN:=(qA DN (p:=p) (w:=w) (base:=base) (k:=k)).mono (show k+1<=k+3 by lia);let FS:=An hG hB DN DO DS fns;show Df.fn.ok Ax (λvs H Q E h=> ?_) (λcdv A outer s H vs Q E hr h=> ?_)
 ·let⟨l,ns,rfl,_⟩:=h
  rfl
 let⟨l,ns,rfl,hl,q⟩:=h;let nd:=Ax.nd;let hra:=hB "range" rfl
 exists _,aK (au (i:=1) nd rfl (Or.inl rfl) (bS eQ aa (bS fN (bE FN hr rfl DN.nm DN.fn.kp DN.bd .nil cY (aC (pv 0) aH)) aa))) (aK (au (i:=2) nd rfl (Or.inl rfl) (bS eQ aa (bS fN (bE FN hr rfl DN.nm DN.fn.kp DN.bd .nil cY (aC (pv 0) aH)) aa))) (aK (au (i:=3) nd rfl (Or.inr rfl) (bS fN (bE FN hr rfl DN.nm DN.fn.kp DN.bd .nil cY (aC (pv 0) aH)) aa)) (aK (jd (pi (IG (bS fN (bE FN hr rfl DN.nm DN.fn.kp DN.bd .nil cY (aC (pv 0) aH)) aa) aa)) (aS (bo (bE FS hr rfl DS.nm DS.fn.kp DS.bd .nil cY (aC (pv 0) (aC (pv 1) (aC (pv 2) aH)))))) dq) (aK (au (i:=4) nd rfl (Or.inl rfl) (eB aH)) (aK (cO Ny rfl (cP rfl hra (aC (pv 1) aH)) (ak (i:=5) nd rfl (Or.inl rfl)) (aS (gr (gJ OQ QU QT gv (pv 4) (aC (gJ O8 PySem.F.slot_str_join PySem.F.type_str_join xH gI (aC (wy (N' :=["_law_column","_law_drawn","_law_thick"]) (src:=[none,some 0,some 3]) rfl (cP rfl hra (aC (pv 2) aH)) ⟨⟨rfl,rfl,.inl rfl⟩,⟨rfl,rfl,.inl rfl⟩,True.intro⟩ rfl 01 01 rfl) aH)) aH)))))
  (aS (bo (bh eS rfl (hB "tuple" rfl) Pq (aC (pv 4) aH))))))))),?_
 show⟨_,rfl,l,ns,rfl,hl,λm1 H1 c1=> ?_⟩;let⟨n1,h1⟩:=c1.1;let b1:∀m:Int,0<=m%8/\m%8<8:=λm=>⟨QF _ 02,Pn _ 02⟩;obtain⟨nr,hnr⟩:∃nr:Nat,(1:Int)+m1%8=(nr:Int):=⟨(1+m1%8).toNat,by have:=b1 m1;lia⟩;show⟨_,_,rfl,rfl,(by change(0:Int)<8;decide),_,_,rfl,rfl,?_⟩;dsimp only;rw[hnr];show⟨_,rfl,l,n1,rfl,h1,λm2 H2 c2=> ?_⟩;let⟨n2,h2⟩:=c2.1;obtain⟨nc,hnc⟩:∃nc:Nat,(1:Int)+m2%8=(nc:Int):=⟨(1+m2%8).toNat,by have:=b1 m2;lia⟩;show⟨_,_,rfl,rfl,(by change(0:Int)<8;decide),_,_,rfl,rfl,?_⟩;dsimp only;rw[hnc];show⟨_,rfl,l,n2,rfl,h2,λm3 H3 c3=> ?_⟩;let⟨n3,h3⟩:=c3.1;exists _,_,rfl,rfl,(by change(0:Int)<8;decide),?_;show⟨_,rfl,l,n3,rfl,h3,λm4 H4 c4=> ?_⟩;let⟨n4,h4⟩:=c4.1;let cA:nK l H H4:=((c1.trans c2).trans c3).trans c4;let r1:1<=nr/\nr<=8:=by have:=b1 m1;lia
 let r2:1<=nc/\nc<=8:=by have:=b1 m2;lia
 show⟨_,_,rfl,rfl,(by change(0:Int)<3;decide),_,_,rfl,rfl,_,rfl,?_⟩;dsimp only
 split
 ·show⟨_,rfl,_,rfl,_,rfl,l,n4,nr,nc,rfl,r1.2,r2.2,h4,λrows z H5 c5 hz e5 rl sg=> ?_⟩
  show q nr nc r1.1 r1.2 r2.1 r2.2 rows z H5 (cA.trans c5) (cA.free hl hz) e5 rl sg
 ·show⟨(by change 0<=sizeLine;decide),λy hy=> ?_⟩
  let s1:aD H4 (upd H4 y (.lst [])):=(aD.refl H4).upd hy;let hy0:H y=none:=cA.free hl hy;let yl:y≠l:=λe=>by rw[e,hl]at hy0;ext hy0
  show⟨_,rfl,nr,rfl,00,00,?_⟩
  show fC (lo:=0) (n:=(nr:Int).toNat) (λi σ G=>∃(a:Option V)(ls:List Str),σ=[some (.ref l),some (.int nr),some (.int nc),some (.int (m3%8)),some (.ref y),a]/\nK l H G/\G y=some (.lst (ls.map V.str))/\ls.length=i/\∀r∈ls,r.length=nc/\∀c∈r.cps.toList,c=120\/c=46)
   (Y_25 _ ([]) rfl (cA.same s1) aB rfl (λr hr=>(by ext hr))) ?_ ?_
  ·intro i σ G hi zm;let⟨a,ls,rfl,cg,gy,ll,hs⟩:=zm
   exists _,rfl,.inl ⟨rfl,_,bG.of gy⟩,?_;let⟨ms,gl⟩:=cg.1;show⟨rfl,_,rfl,nc,rfl,00,00,λx hx=> ?_⟩;let sx:aD G (upd G x (.lst [])):=(aD.refl G).upd hx;let xl:x≠l:=λe=>by rw[e,gl]at hx;ext hx
   exists λj m ys G' =>m=nc-j/\j<=nc/\∃cs:List Nat,ys=cs.map (λc=>V.str ⟨#[c]⟩)/\cs.length=j/\(∀c∈cs,c=120\/c=46)/\nK l G G' /\G' x=some (.lst ys),Y_13 nc rfl (No _) (Y_15 ([]) rfl rfl (λc hc=>by ext hc) (nK.of gl sx) aB),?_;intro j m ys G1 zm;show X_03 (λR0 hj=>X_15 λcs R3 cl c2 cg1 gx=> ?_) zm;subst R0 R3
   by_cases hlt:j<nc
   ·show .inr ⟨(by change j<(nc:Int).toNat;lia),λv G2 yv=> ?_⟩
    let⟨rfl,rfl⟩:=yv;intro C s2 H2 fp clo;let ndc:(["_law_column","_law_drawn","_law_thick"]:List Str).Nodup:=by decide +kernel
    exists mU 0,rh,_,ak (i:=0) ndc rfl (Or.inl rfl),gH,jh vg gI (bh ki rfl (hB "int" rfl) PL (aC (IF (LJ (bS fN (bE FN hr rfl DN.nm DN.fn.kp DN.bd .nil cY (aC (pv 1) aH)) aa) (pv 2))) aH)) (λ_ _=>rfl),?_;show⟨⟨rfl,λj v e=> ?_⟩,?_⟩
    ·match j,e with
     |1,e=>show e|2,e=>show e
    unfold rh;dsimp only;rw[M9 rfl];let⟨ms1,gl1⟩:=cg1.1;let at_:∀b:Bool,cH (Str.ofString ".x").cps.toList (if b=true then 1 else 0)=some (if b=true then 120 else 46):=by decide +kernel
    show⟨_,rfl,l,ms1,rfl,gl1,λn G3 c3=>⟨_,_,rfl,rfl,(by change(0:Int)<8;decide),_,rfl,_,_,rfl,rfl,.inr ⟨_,rfl,_,_,_,rfl,rfl,01,at_ _,?_⟩⟩⟩;show⟨c3.2 _ _ xl gx,by rw[M0,cl];change j<16777216;lia,Y_14 (nc-(j+1)) 00 rfl 00 (Y_15 (cs++[_]) (by rw[NP];rfl) (by rw[NO,cl];rfl) (λc hc=> ?_) ?_ aB)⟩
    ·rcases Nc.mp hc with hc|hc
     ·show c2 c hc
     ·rw[Nb.mp hc]
      split;show .inl rfl;show .inr rfl
    ·let c4:=cg1.trans c3
     show⟨c4.1.imp λ_ e=>by rw[aA (OC xl)];show e,λb o n e=>by rw[aA (aE e hx)];show c4.2 b o n e⟩
   ·show .inl ⟨(by change(nc:Int).toNat<=j;lia),?_⟩
    let ej:j=nc:=by lia
    exists _,x,cs.map λc=>(⟨#[c]⟩:Str),rfl,rfl,.inl (bG.of (by rw[gx,NY];rfl)),?_,?_
    ·show Nd (Nat.le_of_eq (yS cs)) 00
    rw[show Txt.join (Str.ofString "") (cs.map λc=>(⟨#[c]⟩:Str))=G7 cs from Ld cs];let gy1:=cg1.2 _ _ yl gy;let c5:=cg.trans cg1;exists y,_,_,rfl,rfl,gy1,by rw[M0,ll];change i<16777216;lia,?_;exists _,ls++[G7 cs],rfl,⟨c5.1.imp λ_ e=>by rw[aA (OC yl)];show e,λb o n e=>by rw[aA (aE e hy0)];show c5.2 b o n e⟩,?_,by rw[NO,ll];rfl,λr hr=> ?_
    ·rw[aB,NP];rfl
    ·rcases Nc.mp hr with hr|hr
     ·show hs r hr
     ·rw[Nb.mp hr]
      show⟨by change cs.toArray.size=nc;rw[NM];lia,λc hc=>c2 c (by simpa [G7]using hc)⟩
  ·intro σ G zm;let⟨a,ls,rfl,cg,gy,ll,hs⟩:=zm
   show⟨_,rfl,y,_,rfl,.inl ⟨bG.of gy,λt ht=> ?_⟩⟩;let st:aD G (upd G t (.tup (ls.map V.str))):=(aD.refl G).upd ht;show q nr nc r1.1 r1.2 r2.1 r2.2 ls t _ (cg.same st) (cg.free hl ht) aB (by rw[ll];lia) hs
end
section
open PySem.Spec PyProof.Rows
theorem pZ:bA KD ["_law_board_here"] (aI A3):=⟨rfl,rfl,rfl,01,rfl,01,01⟩
abbrev MO:Ct:=⟨KD,(aI A3).names,F,G,B,[]⟩
def c229(k:Nat)(b:a.length<=8)(c:∀z∈a,z.length<=8):aF P (k+1) 229 [.tup (a.map .str)]=some (.lst ((cI a).map .int)):=by show run rfl rfl ?_;change bv (((oM [.tup (a.map .str)]).map Fl.rt).bind _)=_;unfold oM;dsimp only;rw[br,NU,M9 ⟨b,NV.mpr λz hz=>NX (c z hz)⟩,wf];rfl
open J in
def A6{k:Nat}(h:aF P (k+1) 229 c=some r):∃a:List Str,c=[.tup (a.map .str)]/\a.length<=8/\(∀z∈a,z.length<=8)/\r=.lst ((cI a).map .int):=by
 rw[ii,show P 229=some L8 from rfl,NU]at h
 split at h
 case isFalse=>ext h
 rename_i g;let⟨v,rfl⟩:=Ex (show c.length=1 from g);let h:bv (((oM [v]).map Fl.rt).bind λf=>fY f λτ1=>some (.nx τ1))=some r:=h;cases b:oM [v]with
 |none=>rw[b]at h;ext h|some y =>
  rw[b]at h;ext h;unfold oM at b
  split at b
  case h_2=>ext b
  rename_i i e;ext e;cases e:bL i with
  |none=>rw[e]at b;ext b|some a =>
   rw[e,NU]at b
   split at b
   case isFalse=>ext b
   rename_i d;ext b;exists a,by rw[n9 e],d.1,λz hz=>Nj (NV.mp d.2 z hz),by rw[wf]
abbrev iI:List Int:=[1,2,4,8,16,32,64,128]
def xy{m:Nat}(h:m<8):cH (iI.map V.int) (0+(m:Int))=some (.int ((2^m:Nat):Int)):=by
 have:∀m:Fin 8,iI[m.val]? =some ((2^m.val:Nat):Int):=by decide
 rw[QK];show bY (by rw[NG,this ⟨m,h⟩];rfl)
def Hr{cd:Nat->List PV->Option PV}(t:Nat):aX cd (.bf .sum (.cons (.lc (.bin .Mod (.bin .FloorDiv (.var 1) (.var 0)) (.con (.int 2))) (.seq (.var 2)) .no [5]) .nil)) [a0,a1,.frz (.lst (iI.map .int)) n,a3,a4,.frz (.int t) true,a6,a7,a8,a9]=some (sc (.int (ef t:Nat))):=by
 symm;rw[show[PV.int 1,.int 2,.int 4,.int 8,.int 16,.int 32,.int 64,.int 128]=iI.map PV.int from rfl,aq (G:=λb:Int=>PV.int (t/b%2)) (λb hb=>by
  simp only[NH,Nk,Oa]at hb
  rcases hb with rfl|rfl|rfl|rfl|rfl|rfl|rfl|rfl<;>rfl)]
 change some (RV.frz (PV.int (t/1%2+(t/2%2+(t/4%2+(t/8%2+(t/16%2+(t/32%2+(t/64%2+(t/128%2+0))))))))) true)=some (.frz (.int ((t/1%2+(t/2%2+(t/4%2+(t/8%2+(t/16%2+(t/32%2+(t/64%2+(t/128%2+0))))))):Nat):Int)) true);show N6 (λi=>some (RV.frz (PV.int i) true)) ?_;lia
theorem bq:∀{c:aR}{t n:Int},(c.map (·.1)).Nodup->(t,n)∈c->av c t=some n
 |p::c,t,n,nd,h=>by
  unfold av;rw[OA]
  rcases NH.mp h with rfl|h
  ·simp
  ·have:p.1≠t:=λe=>(Np.mp nd).1 (by change p.1∈_;rw[e];show NA.mpr ⟨_,h,rfl⟩)
   simp only[this,O7];show bq (Np.mp nd).2 h
abbrev jA(H:Hp)(j g:Addr)(f:List Str)(i:Nat)(h:L2.St)(G:Hp):Prop:=∃C a b c d e,h=[some (.ref j),some (.ref C),some (.ref g),a,b,c,d,e,none,none]/\aD H G/\H C=none/\G C=some (.dK (am (gR (f.take i))))/\G g=some (.lst (iI.map V.int))
abbrev jB(H:Hp)(g a C b:Addr)(z:Str)(o:Obj)(ct:aR)(j:Nat)(f:L2.St)(G:Hp):Prop:=∃c d e,f=[some (.ref g),some (.ref C),some (.ref a),some (.str z),some (.ref b),c,d,e,none,none]/\aD H G/\G C=some (.frz o (.dK (am ct)))/\G a=some (.lst (iI.map V.int))/\G b=some (.dK (am ((ct.take j).foldl (cW (bV z)) ct)))
abbrev jC(H:Hp)(f a C b:Addr)(z:Str)(o:Obj)(ct:aR)(t n:Int)(g:aR)(m:Nat)(c:L2.St)(G:Hp):Prop:=∃d e,c=[some (.ref f),some (.ref C),some (.ref a),some (.str z),some (.ref b),some (.int t),d,e,none,none]/\aD H G/\G C=some (.frz o (.dK (am ct)))/\G a=some (.lst (iI.map V.int))/\G b=some (.dK (am ((fG z.cps.toList m).foldl (bW t n) g)))
def Dd(ct:aR)(j:Nat):List Int:=(List.range 9).map λq=>cT (λm=>if ef m.toNat=q then 1 else 0) (ct.take j)
abbrev jD(H:Hp)(l f C h:Addr)(o:Obj)(ct:aR)(j:Nat)(i:L2.St)(G:Hp):Prop:=∃a b c d e g,i=[some (.ref l),some (.ref C),some (.ref f),a,b,c,d,e,some (.ref h),g]/\aD H G/\G C=some (.frz o (.dK (am ct)))/\G f=some (.lst (iI.map V.int))/\G h=some (.lst ((Dd ct j).map V.int))
abbrev jE(H:Hp)(i:Addr)(f:List Str)(m:Nat)(j:L2.St)(G:Hp):Prop:=∃o n l a b c d e g h,j=[o,n,l,a,b,c,d,e,some (.ref i),g]/\aD H G/\G i=some (.lst (h.map V.int))/\fX h=cI f/\h.length=m
def FL{K:W.Frag}(hG:∀x v,G.lookup x=some v->∃u w,mg x=some u/\RelV w u/\∀Hi n H,Rp K Hi n v H w)(hB:∀x,B.contains x=true->mg x=none)(Df:kN K mg "_law_row" A3 ["_law_board_here"] f fd)(p:Program)(w:World)(a4:Heap)(k:Nat)
  (c6:∀y g,F.lookup y=some g->∃b gd qs,mg y=some (.ref b)/\W.keepIn K (.ref b)=true/\Binds K gd qs []/\bI p w K mg a4 eU k b gd qs (pS K (aF P k g))):bI p w K mg a4 eU (k+1) f fd ["_law_board_here"] (pS K (aF P (k+1) 229)):=by
 show Df.fn.ok pZ (λvs H Q E h=> ?_) (λcdv A outer s H vs Q E hr h=> ?_)
 ·let⟨b6,r,h1,h2,_⟩:=h
  rw[<- h1.len];let⟨_,rfl,_⟩:=A6 h2;rfl
 let⟨b6,r,h1,h2,q⟩:=h;let⟨l,rfl,h8,w8,rfl⟩:=A6 h2
 let C0:bj (aF P k) (iC eU p w K mg a4 KD "_law_row" (aI A3) f cdv A outer s H E).nox MO :=
  ⟨rfl,pZ.nd,rfl,pZ.kind,rfl,hG,hB,λy g hy=>by let⟨b,gd,qs,z1,z2,z3,z4⟩:=c6 y g hy;show⟨k,b,gd,qs,z4,hr,z1,z2,z3⟩,Ny,hr.units⟩
 obtain⟨u1,_,rfl,r1,h1⟩:=h1;obtain rfl:=h1;let⟨Bd,us,rfl,c8,rb⟩:=Rp.tup.mp r1;let eb:=aG.strs' rb;subst eb;let nd:=pZ.nd;let hu:=CT hr;let hs:sizeLine=16777216:=N4;let c7:=hB "len" rfl;let b7:=hB "range" rfl
 exists _,aK (au (i:=1) nd rfl (Or.inl rfl) (wz (si aa aa wu) rfl rfl (by intro z;ext z) (by change 1<=15;decide)))
  (aK (au (i:=2) nd rfl (Or.inl rfl) (eB (aC aa (aC aa (aC aa (aC aa (aC aa (aC aa (aC aa (aC aa aH)))))))))) (aK (cO Ny rfl (vO (pv 0)) (ak (i:=3) nd rfl (Or.inl rfl)) (aK (au (i:=4) nd rfl (Or.inl rfl) (bh lA rfl (hB "dict" rfl) boot_dict (aC (pv 1) aH))) (aK (pk (cO Ny rfl (sr (pv 1)) (ak (i:=5) nd rfl (Or.inr rfl)) (aS (cO Ny rfl (cP rfl b7 (aC (eC kH (by rfl) c7 Pt (aC (pv 3) aH)) aH)) (ak (i:=6) nd rfl (Or.inl rfl))
     (aS (jd (PW.pt (BF (gq tG (jh vg (pv 3) (pv 6) (λ_ _=>rfl)) gI (mH _)) (wn (gq tG (bS fN (bS tF (pv 5) (jh dw (pv 2) (pv 6) (λ_ _=>rfl))) aa) aa (mH _))))) (aK (au (i:=7) nd rfl (Or.inl rfl) (bS eQ (pv 5) (jh dw (pv 2) (pv 6) (λ_ _=>rfl)))) (aS (je hu (pv 4) (pv 7) (bS eQ (sy hu (pv 4) (pv 7) aa ⟨rfl,rfl,rfl,rfl⟩) (lQ hu (pv 1) (pv 5) (λ_ _=>rfl))) rfl))) dq))))))
   (aS (au (i:=1) nd rfl (Or.inl rfl) (pv 4))))))
  (aK (au (i:=8) nd rfl (Or.inl rfl) (bS Bc (eB (aC aa aH)) aa)) (aK (pk (cO Ny rfl (sr (pv 1)) (ak (i:=5) nd rfl (Or.inr rfl)) (aK (au (i:=9) nd rfl (Or.inl rfl) aT) (aS (BM (bS eQ (jh dw (pv 8) (pv 9) (λ_ _=>rfl)) (lQ hu (pv 1) (pv 5) (λ_ _=>rfl))) (BS (pv 8) (pv 9) sD (λ_=>rfl)) rfl rfl rfl))))) (aK (sd Ny (gq tG (jh dw (pv 8) (BU ux aa) (λ_ _=>rfl)) aa (mH _)) (aS (gr (pq OQ PySem.F.slot_list_pop PySem.F.type_list_pop By (pv 8)) rfl))) (aS (bo (pv 8)))))))),?_
 intro Ca b5;show⟨aB,[((Sum.inl 0:L2.af),V.int 1)],rfl,by change 1<=15;decide,?_⟩;rw[show gO [] [((Sum.inl 0:L2.af),V.int 1)]=am (gR (l.take 0))from rfl,wR];show⟨by change 8<=sizeLine;decide,λBt hBt=> ?_⟩;let O:Bt≠Ca:=λz=>by rw[z,aB]at hBt;ext hBt
 let c':H Bt=none:=by rw[aA O]at hBt;show hBt
 let sG:aD H (L2.upd (L2.upd H Ca (.dK (am (gR (l.take 0))))) Bt (.lst (iI.map V.int))):=(aM b5 _).trans (aM hBt _);let a8 :∀{G:Hp},aD H G->dg K G Bd (l.map V.str):=λs=>s.tup c8;let b4:∀i,ay (gR (l.take i)):=λi=>(tV 0 λy hy=>w8 y (List.mem_of_mem_take hy)).1;show⟨_,rfl,Bd,rfl,⟨l.map V.str,a8 sG⟩,FT (xs:=l.map V.str) (jA H Bd Bt l) ⟨Ca,_,_,_,_,_,rfl,sG,b5,by rw[aA (OC O),aB],aB⟩ (λi σ G _ h=>by show X_61 (λ_ _ _ _ _ _=>X_03 λ_ s _=> ?_) h;show a8 s) ?_ ?_⟩
 ·intro i x σ G ex zm;show X_61 (λC a b c d e=>X_05 λR6 sH hC Z gB=> ?_) zm;subst R6
  obtain⟨z,ez,rfl⟩:∃z,l[i]? =some z/\x=.str z:=by
   rw[NG]at ex;cases e:l[i]? with
   |none=>rw[e]at ex;ext ex|some z=>rw[e]at ex;exists z,rfl,(Nf ex).symm
  let zl:=w8 z (NS ez);obtain⟨ct,Y⟩:∃ct,ct=gR (l.take i):=⟨_,rfl⟩;let ok:ay ct:=Y▸b4 i;rw[<- Y]at Z;show⟨_,rfl,C,_,rfl,.inl Z,λFr hFr=> ?_⟩;let I:Fr≠C:=λz=>by rw[z,Z]at hFr;ext hFr
  let a5:Fr≠Bt:=λz=>by rw[z,gB]at hFr;ext hFr
  let b0:H Fr=none:=sH.free hFr;let O:Bt≠C:=λz=>by rw[z,Z]at gB;ext gB
  let gb:dj (bV z):=ij zl;show⟨_,rfl,C,am ct,rfl,by rw[aA (OC I)];show Z,λo nf=> ?_⟩;show ou (jB H Bd Bt C Fr z o ct) (Y_35 _ _ _ rfl (λb o z=> ?_) aB (by rw[aA O,aA (OC a5)];show gB) (by rw[aA I,aB];rfl)) (λj σ G _ h=>by let⟨_,_,_,_,_,h,_⟩:=h;show h) ?_ ?_
  ·rw[aA (aE z hC),aA (aE z b0)]
   show sH _ _ z
  ·intro j kk x σ G2 a' zm;let⟨c,d,e,rfl,s2,c2,b2,f2⟩:=zm
   let⟨tk,n,N,rfl,rfl⟩:=qY a';obtain⟨⟨t,et,ht⟩,hn⟩:=ok.2 _ (NS N);dsimp only at et hn;subst et;obtain⟨fj,a9⟩:∃fj,fj=(ct.take j).foldl (cW (bV z)) ct:=⟨_,rfl⟩;rw[<- a9]at f2;let b8:ay fj:=by rw[a9];show jQ gb ⟨ok.1.sublist ((List.take_sublist j ct).map _),λp hp=>ok.2 p (List.mem_of_mem_take hp)⟩ ok
   show⟨_,rfl,z,rfl,00,(z.length:Int),rfl,00,00,?_⟩;rw[N9];show fC (jC H Bd Bt C Fr z o ct t n fj) (Y_25 _ _ rfl s2 c2 b2 f2) ?_ ?_
   ·intro m σ G3 hm zm;let⟨d,e,rfl,X,c3,b3,L⟩:=zm
    let m8:m<8:=by lia
    let a6:cH z.cps.toList (0+(m:Int))=some (z.cps.toList.getD m 0):=by let c9:z.cps.toList.length=z.length:=Ng;rw[QK];show bY (by rw[List.getD,M5 00];rfl)
    let Bs:=nA z.cps.toList m;let q:=gf (z.cps.toList.getD m 0);show⟨_,rfl,_,rfl,z,_,_,rfl,rfl,00,a6,?_⟩;show⟨rfl,_,rfl,E6 (λhx=> ?_) (λhx=> ?_)⟩
    ·rw[NX (V.str.inj (Nj hx))]at q
     rw[<- q,M9 rfl]at Bs;obtain⟨U,a3⟩:∃U,U=(fG z.cps.toList m).foldl (bW t n) fj:=⟨_,rfl⟩;let e7:(fG z.cps.toList (m+1)).foldl (bW t n) fj=bW t n U ((2^m:Nat):Int):=by rw[Bs,PQ,<-a3];rfl
     let c5:ay U:=by rw[a3];show fR ht hn (ij 00) b8
     rw[<- a3]at L;let⟨d1,d2⟩:=Ft t ht m m8;let p0:(0:Int)<((2^m:Nat):Int):=by have:=Nat.two_pow_pos m;lia
     let pl:((2^m:Nat):Int).natAbs.log2<9000:=by rw[Int.natAbs_natCast,Nat.log2_two_pow];lia
     let dv:((t:Int)/((2^m:Nat):Int)%2=0)↔t/2^m%2=0:=by lia
     show⟨_,rfl,_,rfl,_,rfl,Bt,_,_,_,rfl,rfl,bG.of b3,xy m8,_,_,rfl,rfl,⟨p0,pl⟩,_,_,rfl,rfl,by change(0:Int)<2;decide,rfl,_,rfl,E6 (λhy=> ?_) (λhy=> ?_)⟩
     ·let hz:t &&& 2^m=0:=d1.mp (dv.mp (V.int.inj (Nj hy)))
      show⟨_,rfl,_,rfl,_,rfl,Bt,_,_,_,rfl,rfl,bG.of b3,xy m8,_,_,rfl,rfl,?_⟩;obtain⟨S,a7⟩:∃S:Int,S=(t:Int)+((2^m:Nat):Int):=⟨_,rfl⟩;change mU 7 (V.int ((t:Int)+((2^m:Nat):Int))) _ _ _;rw[<- a7];let dC:fV G3 C (.int (t:Nat)) (some (.int n)):=.inl (Y_23 (am ct) (Sum.inl (t:Int)) (.inr ⟨o,c3⟩) rfl (by rw[iA,bq ok.1 (NS N)];rfl));obtain⟨D,J⟩:∃D,D=(av U S).getD 0:=⟨_,rfl⟩;show⟨_,rfl,Fr,rfl,.inl ⟨_,.inl L⟩,_,rfl,_,fV.k (k:=Sum.inl S) L,?_⟩;show⟨_,rfl,_,rfl,C,.int n,rfl,dC,D,n,?_,rfl,?_⟩
      ·rw[iA,J]
       cases av U S<;>rfl
      show⟨_,rfl,_,rfl,Fr,_,rfl,qw.k (k:=Sum.inl S) L (by rw[gX,hs];have:=c5.len;lia),_,_,rfl,λb' o' w' => ?_,?_,?_,?_⟩
      ·rw[aA (aE w' b0)]
       show X _ _ w'
      ·rw[aA (OC I)]
       show c3
      ·rw[aA (OC a5)]
       show b3
      ·rw[aB,e7,lW]
       unfold bW wF;rw[kJ,M9 00,lg,show((t ||| 2^m:Nat):Int)=S by rw[a7,<-d2 hz];lia,<-J]
     ·exists _,_,rfl,X,c3,b3,?_
      rw[e7];unfold bW;rw[kJ,NJ (λz=>hy (NX (N6 V.int (dv.mpr (d1.mpr 00)))))];show L
    ·rw[Nu (λz=>hx (NX (N6 V.str z)))]at q
     rw[<- q,NJ 02,OK]at Bs;exists _,_,rfl,X,c3,b3,by rw[Bs];show L
   ·intro σ G3 zm;let⟨d,e,rfl,X,c3,b3,L⟩:=zm
    exists _,_,_,rfl,X,c3,b3,?_;rw[OO,N,PQ,<-a9];show L
  ·intro σ G2 zm;let⟨c,d,e,rfl,s2,c2,b2,f2⟩:=zm
   exists C,o,am ct,c2,nf,?_;show⟨_,rfl,Fr,_,_,_,_,_,rfl,λb' o' w' => ?_,b0,?_,?_⟩
   ·rw[aA (aE w' hC)]
    show s2 _ _ w'
   ·rw[aA I,f2,gX,N7,OO,ez,show(some z).toList=[z]from rfl,oa,<-Y]
    rfl
   ·rw[aA O]
    show b2
 ·intro σ G zm;show X_61 (λC a b c d e=>X_05 λR6 sH hC Z gB=> ?_) zm;subst R6
  rw[M0,N7]at Z;let ok:ay (gR l):=by have:=b4 l.length;rwa [N7]at this
  obtain⟨ct,Y⟩:∃ct,ct=gR l:=⟨_,rfl⟩;rw[<- Y]at Z ok;show⟨by change 1<=sizeLine;decide,λL0 hL0=> ?_⟩;show⟨L0,9,[.int 0],rfl,rfl,aB,02,02,by rw[hs];decide,λFo hFo=> ?_⟩;let b':Fo≠L0:=λz=>by rw[z,aB]at hFo;ext hFo
  let M:G Fo=none:=by rw[aA b']at hFo;show hFo
  let T:H Fo=none:=sH.free M;let I:Fo≠C:=λz=>by rw[z,Z]at M;ext M
  let a5:Fo≠Bt:=λz=>by rw[z,gB]at M;ext M
  let O:Bt≠C:=λz=>by rw[z,Z]at gB;ext gB
  show⟨_,rfl,C,am ct,rfl,by rw[aA (OC I),aA (aE Z hL0)];show Z,λo nf=> ?_⟩;show ou (jD H Bd Bt C Fo o ct) ⟨_,_,_,_,_,_,rfl,λb o z=> ?_,aB,by rw[aA O,aA (OC a5),aA (aE gB hL0)];show gB,by rw[aA I,aB];rfl⟩ (λj σ G _ h=>by show X_61 (λ_ _ _ _ _ _=>X_04 λ_ _ h _=> ?_) h;show h) ?_ ?_
  ·rw[aA (aE z hC),aA (aE z T),aA (aE z (sH.free hL0))]
   show sH _ _ z
  ·intro j kk x σ G2 a' zm;show X_61 (λa b c d e g=>X_05 λR6 s2 c2 b2 f2=> ?_) zm;subst R6
   let⟨tk,n,N,rfl,rfl⟩:=qY a';obtain⟨⟨t,et,ht⟩,_⟩:=ok.2 _ (NS N);dsimp only at et;subst et
   let R:aY K G2 [] [.un,.un,.frz (.lst (iI.map .int)) false,.un,.un,.frz (.int (t:Nat)) true,.un,.un,.un,.un] [some (.ref Bd),some (.ref C),some (.ref Bt),a,b,some (.int (t:Nat)),d,e,some (.ref Fo),g] G2 :=
    aY.consU (aY.consU (aY.consF (aY.consU (aY.consU (aY.consF (aY.consU (aY.consU (aY.consU (aY.consU yn)))) (Rp.int.mpr rfl)))) (Rp.lst.mpr (Y_24 Bt _ rfl (λz=>by ext z) (bG.of (by rw[jv];show b2)) (aG.ints.mpr rfl)))))
   show JZ (n:=80) C0 04 (Hr t) R λu G3 X okv=> ?_;let eu:u=.int (ef t:Nat):=by ext okv;rfl
   subst eu;let p9:ef t<9:=by
    have:∀t:Fin 256,ef t.val<9:=by decide +kernel
    show this ⟨t,ht⟩
   obtain⟨D,J⟩:∃D,D=cT (λm=>if ef m.toNat=ef t then 1 else 0) (ct.take j):=⟨_,rfl⟩;let fl:(Dd ct j).length=9:=by unfold Dd;simp
   let a6:cH ((Dd ct j).map V.int) ((ef t:Nat):Int)=some (.int D):=by show bY ?_;unfold Dd;rw[NG,NG,Nz p9,J];rfl
   let L:=X _ _ f2;let c3:=X _ _ c2;let dC:fV G3 C (.int (t:Nat)) (some (.int n)):=.inl (Y_23 (am ct) (Sum.inl (t:Int)) (.inr ⟨o,c3⟩) rfl (by rw[iA,bq ok.1 (NS N)];rfl));show⟨_,rfl,_,rfl,Fo,_,_,_,rfl,rfl,bG.of L,a6,?_⟩;show⟨_,rfl,_,rfl,C,.int n,rfl,dC,D,n,rfl,rfl,?_⟩;show⟨_,rfl,_,rfl,Fo,_,_,ef t,rfl,rfl,L,by rw[M0,fl];show qH p9,?_⟩;show⟨_,_,_,_,_,_,rfl,λb o z=> ?_,?_,?_,?_⟩
   ·rw[aA (aE z T)]
    show X _ _ (s2 _ _ z)
   ·rw[aA (OC I)]
    show c3
   ·rw[aA (OC a5)]
    show X _ _ b2
   ·rw[aB]
    let e9:Dd ct (j+1)=(Dd ct j).set (ef t) (D+n):=by
     unfold Dd;show Ow λq=> ?_;rw[PP,M0,NT,NG,NG]
     by_cases hq:q<9
     ·rw[Nz hq,OO,N]
      change some (cT _ (ct.take j++[((t:Int),n)]))=_;rw[pI];change some (_+(n*(if ef t=q then 1 else 0)+0))=_
      by_cases hh:ef t=q
      ·subst hh
       rw[M9 rfl,M9 rfl,M9 hq,J,Int.mul_one,Pd]
      ·rw[NJ hh,NJ hh,QL,Pd,Pd]
       rfl
     ·rw[Nl (by simpa using hq),NJ 00]
      rfl
    rw[e9,List.map_set]
  ·intro σ G2 zm;show X_61 (λa b c d e g=>X_05 λR6 s2 c2 b2 f2=> ?_) zm;subst R6
   exists C,o,am ct,c2,nf,?_;let fe:fX (Dd ct (am ct).length)=cI l:=by rw[<- CH h8 w8,gX];unfold Dd Ig;rw[N7,Y]
   let c4:cI l≠[]:=λz=>by
    let h1:(0:Int)<cnt (l.map aj) [] 0:=by rw[ci];decide
    have:cnt (l.map aj) [] 0∈cI l:=by rw[jX w8];show Nv.mpr ⟨NA.mpr (Y_12 0 03 rfl),NX h1⟩
    rw[z]at this;ext this
   exists jE H Fo l,⟨_,_,_,_,_,_,_,_,_,_,_,rfl,λb o z=> ?_,?_,fe,rfl⟩,?_
   ·rw[aA (aE z hC)]
    show s2 _ _ z
   ·rw[aA I]
    show f2
   ·intro mm σ G3 zm;show X_101 (λa0 a1 a2 a b c d e g xs=>X_05 λR10 X L tr R14=> ?_) zm;subst R10 R14
    obtain⟨ys,y,rfl⟩:∃ys y,xs=ys++[y]:=by
     rcases List.eq_nil_or_concat xs with z|⟨ys,y,z⟩
     ·rw[z]at tr
      show absurd tr.symm c4
     ·exists ys,y,by rw[z,List.concat_eq_append]
    let a6:cH ((ys++[y]).map V.int) (-1)=some (.int y):=by
     let e:qz ((ys++[y]).map V.int).length (-1)=some ys.length:=by unfold qz;rw[NJ 02,M9 000];simp;lia
     unfold cH;rw[e];simp
    show⟨_,rfl,1,rfl,Fo,_,_,_,rfl,rfl,bG.of L,a6,?_⟩;show⟨rfl,_,rfl,E6 (λhy=> ?_) (λhy=> ?_)⟩
    ·let hy:y=0:=V.int.inj (Nj hy)
     subst hy;rw[iL]at tr;exists jE H Fo l ys.length,λσ' G' h=>(Y_12 ys.length 03 h),?_;show⟨_,rfl,.inl ⟨rfl,_,bG.of L⟩,Fo,_,.int 0,rfl,rfl,L,03,_,_,_,_,_,_,_,_,_,ys,rfl,λb o z=> ?_,?_,tr,rfl⟩
     ·rw[aA (aE z T)]
      show X _ _ z
     ·rw[aB,NP]
      simp
    ·let hy:y≠0:=λz=>hy (NX (N6 V.int z))
     rw[li ys hy]at tr;exists _,rfl,q _ _ X ?_;rw[<- tr];show Rp.lst.mpr (Y_24 Fo _ rfl (λ_=>⟨T,L⟩) (bG.of L) (aG.ints.mpr rfl))
end
def Cw(z:Str):(((aj z).length:Nat):Int)=ba z:=by
 unfold aj ba;let a:z.cps.toList.length=z.length:=Ng;let e:z.cps.toList=(List.range z.length).map λj=>z.cps.toList.getD j 0:=by show List.ext_getElem (by simp[a]) λj h1 h2=> ?_;rw[O5,PB,M6,M5 h1];rfl
 conv=>rhs;rw[e,List.filter_map,M0]
 rfl
def BZ(h:∀x∈l,0<=x)(n:Nat):sortI (List.replicate n 0++l)=List.replicate n 0++sortI l:=by show(jV ((sortI_perm l).append_left _) (List.pairwise_append.mpr ⟨List.pairwise_replicate.mpr (.inr (QS 0)),jW l,λa ha b hb=> ?_⟩)).symm;rw[(List.mem_replicate.mp ha).2];show h b ((sortI_perm l).mem_iff.mp hb)
def xM(a:List Str):PV->List PV
 | .tup [.int i,.int j]=>[.str (Str.ofString "none"),.int i,.int j]|_=>.str (Str.ofString "factors")::(qW (sortI (a.map ba))).map .int
def GY(a:List Str)(v:PV):Str:=bP " " ((xM a v).map wS)
def c238(k:Nat)(hw:Wd rows w)(h8:rows.length<=8)(w8:w<=8)(cr:DW rows v):aF P (k+4) 238 [.tup (rows.map .str)]=some (.str (GY rows v)):=by
 show bX rfl rfl ?_;simp only[Lw,entry];symm;rw[bD rows];show cK (xs:=(List.range rows.length).map λi=>.int (0+(i:Nat))) (n:=true) ?_ (λi τ=>(∀i' j',i' <i->i' <j' ->j' <rows.length->vV rows i' j' =true)/\∃a b c,τ=[.frz (.tup (rows.map .str)) true,a,b,c]) ⟨λ_ _ z=>absurd z (Nat.not_lt_zero _),Y_31 _ _ _ rfl⟩ ?_ ?_
 ·symm
  simp only[fM,bK,M0];rw[M9 ⟨00,00⟩,N9];rfl
 ·intro i y τ hy zm;show X_02 (λinv=>X_31 λa b c R4=> ?_) zm;subst R4
  let⟨hi,rfl⟩:=gF hy;exists _,rfl,?_;let hz:=M5 hi;let zl:=hw _ (OE hi);symm;show cK (xs:=(List.range (rows.length-(i+1))).map λj=>.int ((i+1)+(j:Nat))) (n:=true) ?_ (λj τ=>(∀j',i<j' ->j' <i+1+j->vV rows i j' =true)/\∃b c,τ=[.frz (.tup (rows.map .str)) true,.frz (.int i) true,b,c]) ⟨λ_ z1 z2=>absurd z1 00,Y_21 _ _ rfl⟩ ?_ ?_
  ·symm
   simp only[fM,bK,M0];rw[M9 ⟨00,00,00,00⟩,show((rows.length:Int)-(i+1)).toNat=rows.length-(i+1)by lia];rfl
  ·intro j y τ hy zm;show X_02 (λinj=>X_21 λb c R3=> ?_) zm;subst R3
   let⟨hj,rfl⟩:=jY hy;exists _,rfl,?_;let hq:i+1+j<rows.length:=by lia
   let yl:=hw _ (OE hq);let e0:i+1+j=((i+1+j:Nat):Int):=by lia
   let ek:vV rows i (i+1+j)=(hasA rows[i] rows[i+1+j]||hasA rows[i+1+j] rows[i]):=by unfold vV;rw[lO hz,lO (M5 hq)]
   let go:vV rows i (i+1+j)=true->∀j',i<j' ->j' <i+1+(j+1)->vV rows i j' =true:=λq j' h1 h2=>by by_cases h:j' =i+1+j;rwa[h];show inj j' h1 00
   symm;rw[e0,pK hz];symm;rw[pK (M5 hq)];symm;rw[MX (k+1) rows[i] rows[i+1+j] 00 00];symm;cases h:hasA rows[i] rows[i+1+j]
   ·symm
    rw[MX (k+1) rows[i+1+j] rows[i] 00 00];symm;cases h' :hasA rows[i+1+j] rows[i]
    ·let e5:=C7 (k+2) (z:=Str.ofString "none") (ns:=[i,((i+1+j:Nat):Int)]) 02 03 (λx hx=>by
      simp only[NH,Nk,Oa]at hx;show Dc 00)
     simp only[NE,OH]at e5;symm;rw[e5];symm;obtain rfl:=qg cr (.inr ⟨i,i+1+j,00,hq,rfl,by rw[ek,h,h'];rfl,λi' j' h1 h2 h3=>by
      rcases h3 with h3|⟨rfl,h3⟩
      ·show inv i' j' h3 h1 h2
      ·show inj j' h1 h3⟩)
     rfl
    ·symm
     show⟨go (by rw[ek,h,h'];rfl),Y_21 _ _ rfl⟩
   ·symm
    show⟨go (by rw[ek,h];rfl),Y_21 _ _ rfl⟩
  ·intro τ zm;show X_02 (λinj=>X_21 λb c R3=> ?_) zm;subst R3
   rw[M0,NT]at inj;symm;show⟨λi' j' h1 h2 h3=> ?_,Y_31 _ _ _ rfl⟩
   by_cases h:i' =i;rw[h];show inj j' 00 00
   ·show inv i' j' 00 h2 h3
 ·intro τ zm;show X_02 (λinv=>X_31 λa b c R4=> ?_) zm;subst R4
  rw[M0,NT]at inv;obtain rfl:=qg cr (.inl ⟨rfl,λi j h1 h2=>inv i j 00 h1 h2⟩);let z8:∀z∈rows,z.length<=8:=λz hz=>by rwa[hw z hz]
  let n0:∀x∈rows.map ba,0<=x:=λx hx=>by let⟨z,_,rfl⟩:=NA.mp hx;show Int.natCast_nonneg _
  let⟨f8,fb⟩:=qV z8;symm;rw[M0,show(8:Int)-(rows.length:Nat)=((8-rows.length:Nat):Int)by lia,M9 ⟨00,00,00⟩];symm;rw[M9 00,aq (G:=λz=>PV.int (ba z)) (λz hz=>by rw[MY (k+2) z (z8 z hz),<-Cw];symm;rw[M0])]
  symm;rw[N9,Gb];symm;let ep:(List.range (8-rows.length)).map (λ_=>PV.int 0)++rows.map (λz=>PV.int (ba z))=(List.replicate (8-rows.length) 0++rows.map ba).map PV.int:=by rw[NP,List.map_replicate,List.map_const',NT,NY];rfl
  let es:sortI (List.replicate (8-rows.length) 0++rows.map ba)=fh (sortI (rows.map ba)):=by rw[BZ n0];unfold fh;rw[(sortI_perm _).length_eq,M0]
  let pl:(fh (sortI (rows.map ba))).length=8:=by rw[<- es,(sortI_perm _).length_eq];simp;lia
  rw[ep,M9 000];symm;rw[fL 000,es];symm;simp only[fM,bK];symm;rw[M9 03,aq (G:=λj=>PV.int ((fh (sortI (rows.map ba))).getD j 0-j)) (λj hj=>by let hj:=Nm.mp hj;symm;rw[QK,qC 00];symm)]
  symm;rw[show(List.range (Int.toNat 8)).map (λj=>PV.int ((fh (sortI (rows.map ba))).getD j 0-j))=((List.range 8).map λj=>(fh (sortI (rows.map ba))).getD j 0-j).map PV.int from by rw[NY];rfl,fL 03];symm;rw[show sortI ((List.range 8).map λj=>(fh (sortI (rows.map ba))).getD j 0-j)=qW (sortI (rows.map ba))from rfl,C7 (k+2) 02 00 (λx hx=>Dc (fb x hx))];symm;rfl
def Ba(n:Nat)(l:List Int):(gK n l).Pairwise (·<·):=by show List.Pairwise.filter _ ?_;unfold eK;rw[Pz];show List.pairwise_lt_range.imp λh=>by lia
structure Mx(rows:List Str)(w m:Nat)(A B:List Int):Prop where
 many:A.length+B.length=m
 row:(cI rows).length=m+1
 hh:m<=rows.length
 hw:m<=w
 a:∀x∈A,0<=x/\x<(rows.length:Int)
 b:∀x∈B,0<=x/\x<(w:Int)
 sa:A.Pairwise (·<·)
 sb:B.Pairwise (·<·)
 all:∀i j:Nat,cd rows i j=120->(i:Int)∈A\/(j:Int)∈B
def cJ(m:Nat)(A B:List Int):List PV:=[.str (Str.ofString "most"),.int m,.str (Str.ofString "rows")]++A.map .int++.str (Str.ofString "columns")::B.map .int
def c216(k:Nat)(rows:List Str)(w:Nat)(hw:Wd rows w)(h8:rows.length<=8)(w8:w<=8):∃v,aF P (k+15) 216 [.tup (rows.map .str)]=some v/\∃m A B,Mx rows w m A B/\v=.lst (cJ m A B):=by
 show l5 rfl rfl ?_;show X_12 (λv e=>X_22 λR Q R4 hr=> ?_) (c114 k rows w hw h8 w8);subst R4;let⟨_,cl,cc⟩:=ib (uV hw h8 w8);let ok:=t9 cc rows.length;let⟨S,s1,s2,s3⟩:=ok.shut;obtain⟨H,hH⟩:∃H,H=hd (qj rows) rows.length:=⟨_,rfl⟩;rw[<- hH]at e hr ok s1 s3;let qb:∀x∈Q,0<=x/\x<w:=λx hx=>by let⟨r,g,_⟩:=s1 x (hr.sub S ⟨s1,s3⟩ x hx);let⟨q,hq,e⟩:=Option.map_eq_some_iff.mp g;let hm:=List.mem_of_find?_eq_some hq;let⟨r0,r1⟩:=ok.rows q.2 (NA.mpr (Y_12 q hm rfl));let ed:=ok.mt.edge q hm;rw[show q.2=((q.2.toNat:Nat):Int)by lia,Nj (List.find?_some (p:=λp:Int×Int=>decide (p.1=x)) hq)]at ed;let⟨j,rfl,hj⟩:=kE.mp ed;have:=Gg hw hj;lia
 let rc:=sQ ok hr;let hl:H.length<=8:=by
  have:=dU (U:=[0,1,2,3,4,5,6,7]) ok.mt.rows λx hx=>by let⟨a,b⟩:=ok.rows x hx;simp only[NH];lia
  rwa[M0]at this
 let sl:=(L2.sortI_perm Q).length_eq;simp only[MD,entry];symm;rw[e];symm;let nl:∀xs n,xs.length<=100->iQ xs n=some (.own xs n):=λxs n h=>by unfold iQ;rw[M9 (by change xs.length<=16777216;lia)]
 let a2:cH [PV.tup (List.map mC (eY (lu H))),PV.lst (List.map PV.int (gK rows.length R)),PV.lst (List.map PV.int (sortI Q))] 2=some (PV.lst (List.map PV.int (sortI Q))):=rfl;rw[DF,nl _ _ 000];symm;rw[M9 000,NU,a2];symm;rw[DF,nl _ _ 000];symm;let pl:(List.map mC (eY (lu H))).length=H.length:=by rw[M0,ya];unfold lu;rw[M0]
 let hw' :H.length<=w:=by
  have:=dU (U:=eK w) ok.mt.keys λx hx=>by let⟨q,hm,rfl⟩:=NA.mp hx;let⟨r0,r1⟩:=ok.rows q.2 (NA.mpr (Y_12 q hm rfl));let⟨j,e,hj⟩:=kE.mp (ok.mt.edge q hm);have:=Gg hw hj;show gw.mpr ⟨00,00⟩
  unfold eK at this;rwa[M0,M0,NT]at this
 let hh:H.length<=rows.length:=by have:=dU ok.mt.rows λx hx=>gw.mpr (ok.rows x hx);unfold eK at this;rwa[M0,M0,NT]at this
 rw[pl];show Y_12 _ rfl (Y_32 H.length (gK rows.length R) (sortI Q) ⟨00,A8 ok hr λz hz=>by rwa[hw z hz],hh,hw',λx hx=>(cD.mp hx).1,λx hx=>qb x ((L2.sortI_perm Q).mem_iff.mp hx),Ba _ _,?_,λi j hc=> ?_⟩ (by simp[cJ]))
 ·show((jW Q).and ((L2.sortI_perm Q).nodup_iff.mpr hr.nod)).imp λh=>by lia
 ·by_cases hR:(i:Int)∈R
  ·obtain⟨q,hq,e⟩:=Ov.mp hR
   show .inr ((L2.sortI_perm Q).mem_iff.mpr (hr.done q hq _ (by rw[M5 hq,e]) _ (kE.mpr (Y_12 j rfl hc))))
  ·have:=o8 hc
   show .inl (cD.mpr ⟨by change 0<=(i:Int)/\i<(rows.length:Int);lia,hR⟩)
def om(i:Int):∀c∈(Str.ofString (toString i)).cps.toList,c=45\/(48<=c/\c<=57):=by
 let r:∀(n:Nat)c,c∈n.repr.toList->48<=c.toNat/\c.toNat<=57:=λn c h=>by have:=Nat.isDigit_of_mem_toDigits (b:=10) 02 02 (by simpa using h);simp[Char.isDigit,UInt32.le_iff_toNat_le]at this;show this
 intro c e;rw[Str.ofString_eq_toList]at e;let⟨d,a,rfl⟩:=NA.mp e;cases i with
 |ofNat n=>show .inr (r n d a)|negSucc n =>
  let a:d∈("-"++(n+1).repr).toList:=a;rw[String.toList_append]at a
  rcases Nc.mp a with h|h
  ·have:d= '-' :=by simpa using h
   rw[this];show .inl rfl
  ·show .inr (r (n+1) d h)
def qy(v:PV):Prop:=∀c∈(wS v).cps.toList,33<=c/\c<128
theorem jm{ns:List Int}:∀v∈ns.map PV.int,qy v:=λv hv c hc=>by let⟨i,_,rfl⟩:=NA.mp hv;have:=om i c hc;lia
theorem Bp{b:List Int}(c:qy (.str z)):∀v∈PV.str z::b.map .int,qy v:=λv a=>by
 rcases NH.mp a with rfl|a
 ·show c
 ·show jm v a
def JL(h:∀c∈z.cps.toList,c<128):nJ n (.str z)=true:=by rw[nJ];unfold PyData.strOk;rw[<- Array.all_toList,NV];show λc hc=>NX (Nq (h c hc) 02)
theorem uB{a:Str}:∀{b:List Str}{c:Nat},c∈(bP a b).cps.toList->c∈a.cps.toList\/∃y∈b,c∈y.cps.toList
 |[],c,h=>by ext h|[x],c,h=>.inr (Y_12 x M7 h)|x::y::r,c,h=>by
  let h:c∈(x.cps++a.cps++(bP a (y::r)).cps).toList:=h;rw[Array.toList_append,Array.toList_append]at h
  rcases Nc.mp h with h|h
  ·rcases Nc.mp h with h|h
   ·show .inr (Y_12 x M7 h)
   ·show .inl h
  ·rcases uB h with h|⟨z,d,h⟩
   ·show .inl h
   ·show .inr (Y_12 z (M4 _ d) h)
theorem B6{b:List PV}(h:∀v∈b,qy v):∀c∈(bP " " (b.map wS)).cps.toList,32<=c/\c<128:=λc a=>by
 rcases uB a with a|⟨y,d,a⟩
 ·have:c=32:=by simpa using(show c∈[32]from a)
  lia
 ·let⟨v,e,rfl⟩:=NA.mp d
  have:=h v e c a;lia
def vd{ws:List PV}(b:ws≠[])(h:∀v∈ws,qy v):Txt.split (bP " " (ws.map wS)) ⟨#[32]⟩=ws.map wS:=by rw[show bP " " (ws.map wS)=Str.join ⟨#[32]⟩ (ws.map wS)from(hU _ _).symm];show UM.iP (λz=>b (List.map_eq_nil_iff.mp z)) λy hy hc=>by let⟨v,a,rfl⟩:=NA.mp hy;have:=h v a 32 hc;lia
theorem qS{sep:Str}(b:sep.length=1):∀a:List Str,(bP sep a).length<=(a.map (·.length)).sum+a.length
 |[]=>NB _|[x]=>by change x.length<=x.length+0+1;lia|x::y::r=>by
  let c:=qS b (y::r);let e:(bP sep (x::y::r)).length=x.length+sep.length+(bP sep (y::r)).length:=by change(x.cps++sep.cps++(bP sep (y::r)).cps).size=_;rw[Array.size_append,Array.size_append];rfl
  rw[e,NE,Oy,NW];lia
def xK{ws:List PV}(hl:ws.length<=100)(h:∀v∈ws,Bo v=true):(bP " " (ws.map wS)).length<=7100:=by let h1:=qS (sep:=" ") rfl (ws.map wS);rw[NY,M0]at h1;let h3:(ws.map ((λz:Str=>z.length)∘wS)).sum<=70*ws.length:=lw λv hv=>AN (h v hv);lia
abbrev Lq:List PV:=[.str (Str.ofString "0"),.str (Str.ofString "1"),.str (Str.ofString "2"),.str (Str.ofString "3"),.str (Str.ofString "4"),.str (Str.ofString "5"),.str (Str.ofString "6"),.str (Str.ofString "7")]
def Ja(h:0<=x/\x<8):bB .NotIn (.str (wS (.int x))) (.lst Lq)=some false/\intText? (wS (.int x))=some x/\(wS (.int x)).length<=640:=by
 have:∀i:Fin 8,bB .NotIn (.str (wS (.int (i.val:Int)))) (.lst Lq)=some false/\intText? (wS (.int (i.val:Int)))=some (i.val:Int)/\(wS (.int (i.val:Int))).length<=640:=by decide +kernel
 have:=this ⟨x.toNat,00⟩;rwa[show(((⟨x.toNat,00⟩:Fin 8).val:Nat):Int)=x by change((x.toNat:Nat):Int)=x;lia]at this
def Au(h:∀n∈ns,0<=n/\n<8):kR (.lst (ns.map PV.int))=some ns:=by change((aP (ns.map PV.int)).bind λns=>if ns.all (λn=>decide (0<=n)&&decide (n<8))=true then some ns else none)=some ns;rw[bC,NU,M9];rw[NV];intro x hx;let⟨a,b⟩:=h x hx;rw[M8];show⟨NX a,NX b⟩
def MZ(k:Nat){R:List Int}(m:R.length<=8)(d:∀x∈R,0<=x/\x<8)(g:R.Pairwise (·<·)):aF P (k+1) 234 [.lst (R.map λi=>.str (wS (.int i)))]=some (.lst (R.map .int)):=by
 show bX rfl rfl ?_;simp only[L1,entry];symm;show cK (xs:=R.map λi=>.str (wS (.int i))) (n:=false) ?_ (λi c=>∃a,c=[.frz (.lst (R.map λi=>.str (wS (.int i)))) false,.own ((R.take i).map .int) true,a]) ⟨_,rfl⟩ ?_ ?_
 ·symm
 ·intro i y c b zm;let⟨a,rfl⟩:=zm
  obtain⟨x,f,rfl⟩:∃x,R[i]? =some x/\y=.str (wS (.int x)):=by
   rw[NG]at b;cases e:R[i]? with
   |none=>rw[e]at b;ext b|some x=>rw[e]at b;exists x,rfl,(Nf b).symm
  let⟨j,h,l⟩:=Ja (d x (NS f));exists _,rfl,?_;symm;rw[j];symm;rw[show iJ Bf.int [RV.frz (.str (wS (.int x))) true]=some (sc (.int x))from by change(if(wS (.int x)).length<=640 then(intText? (wS (.int x))).map _ else none)=_;rw[M9 l,h];rfl]
  symm;rw[cX rfl (by rw[M0,OF];change _<16777216;lia)];symm;show⟨_,by rw[OO,f,NP];rfl⟩
 ·intro c zm;let⟨a,rfl⟩:=zm
  rw[M0,N7];symm;rw[Au d];symm;rw[Bi d g,show bB .NotEq (.lst (R.map PV.int)) (.lst (R.map PV.int))=some false from by
   let e:o0 (.lst (R.map .int)) (.lst (R.map .int))=true:=by unfold o0;show uM R
   rw[xr,M9 (by rw[M8];show⟨mY 11 R,mY 11 R⟩),e];rfl]
  symm
theorem uL:∀l:List Str,me (l.map PV.str) (l.map PV.str)=true
 |[]=>rfl|x::l=>by rw[NE,me,uL l,Bool.and_true];unfold o0;show NX rfl
def lX{ys:List Str}(h:∀y∈ys,∀c∈y.cps.toList,c<128):bB .NotEq (.lst (ys.map .str)) (.lst (ys.map .str))=some false:=by
 let f:nJ 12 (.lst (ys.map .str))=true:=by change(ys.map PV.str).all (nJ 11)=true;rw[PD,NV];show λy hy=>JL (h y hy)
 let e:o0 (.lst (ys.map .str)) (.lst (ys.map .str))=true:=by unfold o0;show uL ys
 rw[xr,M9 (by rw[M8];show⟨f,f⟩),e];rfl
theorem qE{m:Nat}{A B:List Int}:∀v∈cJ m A B,qy v:=λv hv=>by
 unfold cJ at hv;simp only[Nc,NH,Nk,Oa]at hv
 rcases hv with((rfl|rfl|rfl)|hv)|rfl|hv
 ·unfold qy
  decide +kernel
 ·show jm (ns:=[m]) _ M7
 ·unfold qy
  decide +kernel
 ·show jm v hv
 ·unfold qy
  decide +kernel
 ·show jm v hv
theorem tN{m:Nat}{A B:List Int}(c:m<=8)(a:∀x∈A,0<=x/\x<8)(b:∀x∈B,0<=x/\x<8):∀v∈cJ m A B,Bo v=true:=λv hv=>by
 unfold cJ at hv;simp only[Nc,NH,Nk,Oa]at hv
 rcases hv with((rfl|rfl|rfl)|hv)|rfl|hv
 ·decide
 ·show NX (Dc 00)
 ·decide
 ·show okN (λx hx=>Dc (by have:=a x hx;lia)) v hv
 ·decide
 ·show okN (λx hx=>Dc (by have:=b x hx;lia)) v hv
def qK(i:Int):(wS (.int i)==Str.ofString "columns")=false:=by rw[Pe];intro z;have:=om i 99 (by rw[show Str.ofString (toString i)=Str.ofString "columns" from z];decide +kernel);lia
theorem xS{y:Str}{r:List Str}:∀{p:List Str},(∀x∈p,(x==y)=false)->(p++y::r).findIdx? (·==y)=some p.length
 |[],_=>by rw[QE,List.findIdx?_cons,beq_self_eq_true,M9 rfl];rfl|x::p,h=>by rw[P7,List.findIdx?_cons,h x M7,NJ 02,xS λz hz=>h z (M4 _ hz)];rfl
def Ff{y:Str}(h:∀x∈p,(x==y)=false)(a:∀x∈r,(x==y)=false):(p++y::r).countP (·==y)=1:=by
 let z:∀l:List Str,(∀x∈l,(x==y)=false)->l.countP (·==y)=0:=λl h=>List.countP_eq_zero.mpr λx hx=>by rw[h x hx];decide
 rw[List.countP_append,List.countP_cons,beq_self_eq_true,z p h,z r a];rfl
def B3{A:List Int}{n:Nat}(b:1<=n)(h:∀x∈A,0<=x/\x<(n:Int)):∃M:Int,iJ .maxl [.own (A.map PV.int++[.int 0]) true]=some (sc (.int M))/\M<(n:Int):=by
 let e:A.map PV.int++[.int 0]=(A++[0]).map PV.int:=by rw[NP];rfl
 cases a:(A++[0]).max? with
 |none=>show absurd (List.max?_eq_none_iff.mp a) 03|some M =>
  exists M,?_,?_
  ·change(aP (A.map PV.int++[.int 0])).bind _=_
   rw[e,bC,NU,a];rfl
  ·rcases Nc.mp (List.max?_eq_some_iff.mp a).1 with q|q
   ·show(h M q).2
   ·rw[Nb.mp q]
    lia
def c235(k:Nat){m:Nat}{A B:List Int}(K:Wd d w)(T:d≠[])(h8:d.length<=8)(w8:w<=8)(w1:1<=w)(g:Mx d w m A B):aF P (k+2) 235 [.str (bP " " ((cJ m A B).map wS)),.tup (d.map .str),.int m]=some (.bl true):=by
 show bX rfl rfl ?_;let ma:=g.many;let mh:=g.hh;obtain⟨H,C⟩:∃z,d[0]? =some z:=by
  cases d with
  |nil=>show absurd rfl T|cons z r=>show⟨z,rfl⟩
 let E:=K H (NS C);let N:cH (d.map PV.str) 0=some (.str H):=u8 C;obtain⟨W,J⟩:∃W,W=(cJ m A B).map wS:=⟨_,rfl⟩;let h:W=[Str.ofString "most",wS (.int m),Str.ofString "rows"]++(A.map λi=>wS (.int i))++Str.ofString "columns"::B.map λi=>wS (.int i):=by rw[J];unfold cJ;rw[NP,NP,NY];change _++_++_::(B.map PV.int).map wS=_;rw[NY];rfl
 let R:=vd (ws:=cJ m A B) (by simp[cJ]) qE;rw[<- J]at R ⊢;let O:∀x∈A,0<=x/\x<8:=λx e=>by have:=g.a x e;lia
 let S:∀x∈B,0<=x/\x<8:=λx e=>by have:=g.b x e;lia
 let gl:(bP " " W).length<=7100:=by rw[J];show xK (by simp[cJ];lia) (tN 00 O S)
 let Y:du .split (.frz (.str (bP " " W)) true) [.frz (.str (Str.ofString " ")) true]=some (.own (W.map .str) true):=by rw[show du .split (.frz (.str (bP " " W)) true) [.frz (.str (Str.ofString " ")) true]=if _ then some (.own ((Txt.split (bP " " W) ⟨#[32]⟩).map PV.str) true)else none from rfl,M9 ⟨rfl,00⟩,R]
 simp only[Lz,entry];symm;rw[Y];symm;rw[d9,show cut (W.map PV.str) none (some 3)=[Str.ofString "most",wS (.int m),Str.ofString "rows"].map PV.str from by rw[h];rfl];symm;rw[pR (v:=.int m) (NX (Dc 00))];symm;obtain⟨o,D⟩:∃o,o=[Str.ofString "most",wS (.int m),Str.ofString "rows"]++A.map λi=>wS (.int i):=⟨_,rfl⟩;obtain⟨p,f⟩:∃p,p=B.map λi=>wS (.int i):=⟨_,rfl⟩;let Q:∀x∈o,(x==Str.ofString "columns")=false:=λx e=>by
  rw[D]at e;simp only[Nc,NH,Nk,Oa]at e
  rcases e with(rfl|rfl|rfl)|e
  ·decide +kernel
  ·show qK _
  ·decide +kernel
  ·let⟨i,_,rfl⟩:=NA.mp e
   show qK i
 let fb:∀x∈p,(x==Str.ofString "columns")=false:=λx e=>by rw[f]at e;let⟨i,_,rfl⟩:=NA.mp e;show qK i
 rw[<- D,<-f]at h;let M:o.length=3+A.length:=by rw[D];simp;lia
 let wl:W.length=4+A.length+B.length:=by rw[h,NO,M,NW,f,M0];lia
 let L:=lX (ys:=[Str.ofString "most",wS (.int m),Str.ofString "rows"]) (λy s c u=>by
  have:=qE (m:=m) (A:=[]) (B:=[]);simp only[NH,Nk,Oa]at s
  rcases s with rfl|rfl|rfl
  ·show(this (.str (Str.ofString "most")) M7 c u).2
  ·show(this (.int m) (by simp[cJ]) c u).2
  ·show(this (.str (Str.ofString "rows")) (by simp[cJ]) c u).2)
 simp only[NE,OH]at L;let ec:du .count (.frz (.lst (W.map .str)) true) [.frz (.str (Str.ofString "columns")) true]=some (sc (.int 1)):=by change(bL (W.map .str)).map _=_;rw[br,h];change some (sc (.int ((o++Str.ofString "columns"::p).countP (·==Str.ofString "columns"):Nat)))=_;rw[Ff Q fb];rfl
 let ei:du .index (.frz (.lst (W.map .str)) true) [.frz (.str (Str.ofString "columns")) true]=some (sc (.int ((3+A.length:Nat):Int))):=by change(bL (W.map .str)).bind _=_;rw[br,h,NU,xS Q,M];rfl
 rw[L];symm;rw[ec];symm;rw[ei];symm;let c1:cut (W.map PV.str) (some 3) (some ((3+A.length:Nat):Int))=A.map λi=>.str (wS (.int i)):=by unfold cut;rw[M0,show HT.nH W.length 0 (some 3)=3 from(HT.lN W.length 0 3).trans 00,HT.lN,show min (3+A.length) W.length=3+A.length by lia,Nat.add_sub_cancel_left,<-P8,<-Pk,h,D,PU];change List.map PV.str (((A.map λi=>wS (.int i))++_).take A.length)=_;rw[List.take_left' 03,NY];rfl
 let c2:cut (W.map PV.str) (some (((3+A.length:Nat):Int)+1)) none=B.map λi=>.str (wS (.int i)):=by unfold cut;rw[M0,show((3+A.length:Nat):Int)+1=((4+A.length:Nat):Int)by lia,HT.lN,show HT.nH W.length W.length none=W.length from rfl,show min (4+A.length) W.length=4+A.length by lia,<-P8,h,show o++Str.ofString "columns"::p=(o++[Str.ofString "columns"])++p by simp,List.drop_left' 000,Px (by rw[M0,NO,NO,f];simp;lia),f,NY];rfl
 rw[d9,c1];symm;rw[MZ k 00 O g.sa];symm;rw[d9,c2];symm;rw[MZ k 00 S g.sb];symm;rw[M0,M0,NX (show(A.length:Int)+(B.length:Int)=m by lia)];symm;rw[bD d];let⟨MA,ea,X⟩:=B3 (List.length_pos_iff.mpr T) g.a;let⟨MB,U,lb⟩:=B3 w1 g.b;show cK (xs:=(List.range d.length).map λi=>.int (0+(i:Nat))) (n:=true) ?_ (λ_ l=>∃a b,l=[.frz (.str (bP " " W)) true,.frz (.tup (d.map .str)) true,.frz (.int m) true,.frz (.lst (W.map .str)) true,.frz (.int ((3+A.length:Nat):Int)) true,.frz (.lst (A.map .int)) true,.frz (.lst (B.map .int)) true,a,b]) (Y_21 _ _ rfl) ?_ ?_
 ·symm
  simp only[fM,bK,M0];rw[M9 ⟨00,00⟩,N9];rfl
 ·intro i y l s zm;let⟨a,b,rfl⟩:=zm
  let⟨I,rfl⟩:=gF s;let zl:=K _ (OE I);exists _,rfl,?_;symm;show cK (xs:=(List.range w).map λi=>.int (0+(i:Nat))) (n:=true) ?_ (λ_ l=>∃b,l=[.frz (.str (bP " " W)) true,.frz (.tup (d.map .str)) true,.frz (.int m) true,.frz (.lst (W.map .str)) true,.frz (.int ((3+A.length:Nat):Int)) true,.frz (.lst (A.map .int)) true,.frz (.lst (B.map .int)) true,.frz (.int i) true,b]) ⟨_,rfl⟩ ?_ ?_
  ·symm
   rw[N];symm;rw[len_str,M9 (by rw[E];change w<=16777216;lia),E];symm;simp only[fM,bK];rw[M9 ⟨00,00⟩,N9];rfl
  ·intro j y l s zm;let⟨b,rfl⟩:=zm
   let⟨hj,rfl⟩:=gF s;exists _,rfl,?_;symm;rw[pK (M5 I)];symm;rw[M9 (by rw[zl];lia),pV 00];symm;rw[gf];cases e:d[i].cps.toList.getD j 0==120 with
   |false =>symm;show⟨_,rfl⟩
   |true =>
    let u:cd d i j=120:=by unfold cd;rw[show d.getD i ⟨#[]⟩=d[i]by rw[M6,M5 I];rfl];show Og.mp e
    rw[M9 rfl,gM]
    rcases g.all i j u with q|q
    ·rw[NZ.mpr q]
     symm;show⟨_,rfl⟩
    ·symm
     cases A.contains i
     ·symm
      rw[gM,NZ.mpr q];symm;show⟨_,rfl⟩
     ·symm
      show⟨_,rfl⟩
  ·intro l zm;let⟨b,rfl⟩:=zm
   symm;exists _,_,rfl
 ·intro l zm;let⟨a,b,rfl⟩:=zm
  symm;rw[M9 000,NU,NU,ea];symm;rw[M0,NX X];symm;rw[M9 000,NU,NU,U];symm;rw[N];symm;rw[len_str,M9 (by rw[E];change w<=16777216;lia),E];symm;rw[NX lb];symm
def zf(b:UM.cq 8 a):m9 (.tup (a.map .str))=true:=by
 let⟨w,i,j,e⟩:=b.wide;let h:=b.few;let f:∀z∈a,(df (PV.str z)).getD 0=w:=λz d=>by rw[len_str,M9 (by rw[e z d];change w<=16777216;lia)];show e z d
 let g:=List.length_pos_iff.mpr b.some;change(ee _&&((a.map PV.str).all iE&&(a.map PV.str).all λx=>decide ((df x).getD 0=(df ((a.map PV.str).getD 0 .non)).getD 0)))=true;simp only[M8,NV,OV];unfold ee;simp only[M8,OV,M0];show⟨⟨00,00⟩,λx hx=> ?_,λx hx=> ?_⟩
 ·let⟨z,d,rfl⟩:=NA.mp hx
  have:=e z d;change(ee z.length&&z.cps.toList.all sB)=true;unfold ee;simp only[M8,NV,OV];show⟨⟨00,00⟩,λc hc=>by simpa [sB]using b.signs z d c hc⟩
 ·let⟨z,d,rfl⟩:=NA.mp hx
  rw[f z d,M6,NG,M5 g];show(f _ (OE g)).symm
def c32(k:Nat)(b:UM.cq 8 a)(j:(Str.join NL a).length<=1000):aF P (k+4) 32 [.str (Str.join NL a)]=some (.tup (a.map .str)):=by
 show bX rfl rfl ?_;let⟨w,i,l,f⟩:=b.wide;let g:aF P (k+3) 2 [.tup (a.map .str)]=some (.bl true):=by rw[<- zf b];show c2 k _ rfl λxs e x hx=>by ext e;let⟨y,d,rfl⟩:=NA.mp hx;show NX (by rw[show y.length=w from f y d];change w<=16777216;lia)
 let h:du .split (.frz (.str (Str.join NL a)) true) [.frz (.str (Str.ofString "\n")) true]=some (.own (a.map .str) true):=by rw[show du .split (.frz (.str (Str.join NL a)) true) [.frz (.str (Str.ofString "\n")) true]=if _ then some (.own ((Txt.split (Str.join NL a) NL).map PV.str) true)else none from rfl,M9 ⟨rfl,00⟩,show Txt.split (Str.join NL a) NL=a from UM.iP b.some b.free]
 simp only[d32,entry];symm;rw[h];symm;rw[g];symm
def DP(f:Wd a w):(((fk a w a.length).length:Nat):Int)=(a.map ba).sum:=by
 let b:∀n,n<=a.length->(((fk a w n).length:Nat):Int)=((a.take n).map ba).sum:=by
  intro n
  induction n with
  |zero=>intro _;rfl|succ n h =>
   intro c;let d:=M5 c;rw[km,NO,Int.natCast_add,h 00,List.take_succ,d];simp only[Option.toList_some,NP,List.sum_append,NE,OH,Oy,List.sum_nil,Pd]
   congr 1
   unfold l6 ba;rw[M0];let g:a[n].cps.toList.length=w:=f a[n] (OE c);let e:a[n].cps.toList=(List.range w).map λj=>cd a n j:=by show List.ext_getElem (by simp[g]) λj h1 h2=> ?_;rw[O5,PB];unfold cd;rw[M6,M6,d,O4,M5 h1,O4]
   rw[e,List.filter_map,M0];rfl
 have:=b a.length (NB _);rwa[N7]at this
def sO(a:List Str)(w m:Nat)(A B:List Int)(v:PV):List (List PV):=[[.str (Str.ofString "cells"),.int ((fk a w a.length).length:Nat)],.str (Str.ofString "row")::(cI a).map .int,.str (Str.ofString "hits")::(fA a w).map .int,cJ m A B,xM a v]
def bt(a:List Str)(w m:Nat)(A B:List Int)(v:PV):List Str:=(sO a w m A B v).map λws=>bP " " (ws.map wS)
theorem uW(d:Wd a w)(b:a.length<=8)(c:w<=8):(fk a w a.length).length<=64:=Nd (nE a w a.length) (Nd (QO b c) 02)
theorem BA{m:Nat}{A B:List Int}(bd:UM.cq 8 rows)(hw:Wd rows w)(w8:w<=8)(cv:Mx rows w m A B)(cr:DW rows v):∀ws∈sO rows w m A B v,ws.length<=100/\(∀v∈ws,Bo v=true)/\∀v∈ws,qy v:=λws hws=>by
 let h8:=bd.few;let z8:∀z∈rows,z.length<=8:=λz hz=>by rwa[hw z hz]
 let⟨l3,o3⟩:=lP h8 z8;let⟨l4,o4⟩:=qO h8 w8 z8;let al:=uW hw h8 w8;let ma:=cv.many;let mh:=cv.hh;let one:∀{z:Str}{ns:List Int},z.length<=70->qy (.str z)->ns.length<=90->(∀x∈ns,x.natAbs<2^200)->(PV.str z::ns.map .int).length<=100/\(∀v∈PV.str z::ns.map .int,Bo v=true)/\∀v∈PV.str z::ns.map .int,qy v:=λhz oc hl h=>⟨000,okL hz h,Bp oc⟩;unfold sO at hws;simp only[NH,Nk,Oa]at hws
 rcases hws with rfl|rfl|rfl|rfl|rfl
 ·show one (ns:=[((fk rows w rows.length).length:Nat)]) 02 (by unfold qy;decide +kernel) 03 λx hx=>by rw[Nb.mp hx];show Dc 00
 ·show one 02 (by unfold qy;decide +kernel) 00 λx hx=>Oh (o3 x hx) 02
 ·show one 02 (by unfold qy;decide +kernel) 00 o4
 ·show⟨by simp[cJ];lia,tN 00 (λx hx=>by have:=cv.a x hx;lia) (λx hx=>by have:=cv.b x hx;lia),qE⟩
 ·rcases cr with⟨rfl,_⟩|⟨i,j,_,hj,rfl,_⟩
  ·let⟨f8,fb⟩:=qV z8
   show one 02 (by unfold qy;decide +kernel) 00 λx hx=>Dc (fb x hx)
  ·show one (ns:=[i,j]) 02 (by unfold qy;decide +kernel) 03 λx hx=>by simp only[NH,Nk,Oa]at hx;show Dc 00
def wj{m:Nat}{A B:List Int}(ok:∀ws∈sO rows w m A B v,ws.length<=100/\(∀v∈ws,Bo v=true)/\∀v∈ws,qy v):((bt rows w m A B v).map (·.length)).sum<=35500:=by show lw λws hws=>xK (ok ws hws).1 (ok ws hws).2.1
def E5{ys:List Str}(h:(ys.map (·.length)).sum+ys.length*1<=16777216):du .join (.frz (.str (Str.ofString "\n")) true) [.own (ys.map .str) true]=some (sc (.str (bP "\n" ys))):=by change(bL (ys.map PV.str)).bind _=_;rw[br,NU];show M9 h
def c218(k:Nat)(a:List Str)(w:Nat)(o:UM.cq 8 a)(g:Wd a w)(c:w<=8)(E:(Str.join NL a).length<=1000):∃t,aF P (k+23) 218 [.str (Str.join NL a)]=some t/\∃m A B v,Mx a w m A B/\DW a v/\t=.str (bP "\n" (bt a w m A B v)):=by
 show l5 rfl rfl ?_;let b:=o.few;let p:∀z∈a,z.length<=8:=λz hz=>by rwa[g z hz]
 show X_12 (λ_ n=>X_32 λm A B C R6=> ?_) (c216 (k+7) a w g b c);subst R6;let⟨D,h,I⟩:=Gi k a o;obtain⟨v,d,rfl⟩:∃v,DW a v/\D=.lst (xM a v):=by
  rcases I with⟨d,_,rfl⟩|⟨i,j,_,_,d,rfl⟩
  ·exists _,d,rfl
  ·exists _,d,rfl
 let s:=BA o g c C d;let M:=wj s;let⟨L,_⟩:=lP b p;let⟨J,_⟩:=qO b c p;simp only[MC,entry];symm;rw[c32 (k+18) o E];symm;rw[c3 (k+21) a w g b c];symm;rw[c48 (k+20) a b p];symm;rw[M9 000];symm;rw[c99 (k+18) a w g o.some b c];symm;rw[M9 000];symm;rw[n];symm;rw[h];symm;let e:=aq (f:=λx=>(Option.map told (aF P (k+22) 215 [x])).bind λr=>Option.map some r.keep) (λws hws=>by rw[c215 (k+21) ws (s ws hws).1 (s ws hws).2.1];rfl)
 let j:=E5 (ys:=bt a w m A B v) (by change _+5*1<=16777216;lia);rw[show(bt a w m A B v).map PV.str=(sO a w m A B v).map λws=>PV.str (bP " " (ws.map wS))from by unfold bt;rw[NY];rfl]at j;rw[show[PV.lst [.str (Str.ofString "cells"),.int ((fk a w a.length).length:Nat)],.lst (.str (Str.ofString "row")::(cI a).map .int),.lst (.str (Str.ofString "hits")::(fA a w).map .int),.lst (cJ m A B),.lst (xM a v)]=(sO a w m A B v).map PV.lst from rfl,e];symm;rw[j];symm;show⟨_,rfl,_,_,_,_,C,d,rfl⟩
section
open PySem.Spec PyProof.Rows L2.XN XE
structure GD(K:W.Frag)(mg:Str->Option Value)(C D c1 c2 c3 fI:Addr)(fd:FuncData):Prop where
 mx:GC K C fI "rows"
 kC:Mq K mg "NoStair" C
 sC:W.subIn K (.ref C) (.ref C)=some true
 fn:∃(oc kV doc pm cdv ct oc' :Value)(od an od' :Option Addr)(osl osl' :Array (Option Value))(T:Addr)(n:Nat),fd=W.fnOf "__init__" "NoStair.__init__" (cF sI) (bO sI) (aI sI) (.ref T) kV doc pm an cdv ct/\K.lookup fI=some ⟨oc,od,.func fd,osl⟩/\W.codeIn K cdv "NoStair.__init__"=true/\K.lookup T=some ⟨oc',od',.seq #[.none] n,osl'⟩
abbrev NI:List Str:=["self","rows"]
theorem pX:bA NI NI (aI sI):=⟨rfl,rfl,rfl,01,rfl,01,01⟩
def spI(K:W.Frag)(a:Addr):Sp:=λvs H Q _=>∃e C y,vs=[.ref e,y]/\H e=some (XN C none e)/\GC K C a "rows"/\∀d,H d=none->d≠e->Q .non (upd (upd H e (XN C (some d) e)) d (.xd [("rows",y)]))
section
variable{K:W.Frag}{mg:Str->Option Value}{C D c1 c2 c3 fI:Addr}{fd:FuncData}(cl:GD K mg C D c1 c2 c3 fI fd){p:Program}{w:World}{base:Heap}{k:Nat}
include cl
def FA:bI p w K mg base eU (k+1) fI fd NI (spI K fI):=by
 show X_101 (λo r c x i ct l u v f=>X_41 λm b T n=>X_04 λR14 g a _=> ?_) cl.fn;subst R14;show xX g a pX (λvs H Q E h=> ?_) λA outer s H vs Q E hr h=> ?_
 ·let⟨e,C,y,rfl,_⟩:=h
  rfl
 ·let⟨e,C,y,rfl,j,M,q⟩:=h
  exists _,aS (EO (pv 0) (pv 1) rfl),?_;show⟨y,rfl,_,rfl,e,C,fI,rfl,j,M,λd hd hn=>q d hd hn⟩
def FE:Binds K fd NI []:=by show X_101 (λo q e v h ct j r u f=>X_41 λl d T n=>X_04 λR14 m i g=> ?_) cl.fn;subst R14;intro s us X c;rw[OK]at c ⊢;let⟨a,b,rfl⟩:=Ew c;show W.binds_K X rfl g rfl rfl rfl
end
end
structure My(K:W.Frag)(mg:Str->Option Value)(C D c1 c2 c3 fI:Addr)(fd:FuncData):Prop where
 cs:GD K mg C D c1 c2 c3 fI fd
 sX:W.subIn K (.ref C) (.type "BaseException")=some true
section
open PySem.Spec PyProof.Rows L2.XN XE
def Kt(K:W.Frag)(C:Addr):Sp:=λvs H _ E=>∃(a:List Str)(i j:Nat),UM.cq 8 a/\aG K H false [.tup (a.map .str)] H vs/\DW a (.tup [.int (i:Nat),.int (j:Nat)])/\∀b d t,aD H b ->b d=some (.xd [("rows",t)])->Rp K H true (.tup [.int (i:Nat),.int (j:Nat)]) b t->E (.ref C) (some d) b
theorem A1:bA Mp ["board"] (aI A4):=⟨rfl,rfl,rfl,01,rfl,01,01⟩
theorem A0:bA Mn ["board"] (aI D8):=⟨rfl,rfl,rfl,01,rfl,01,01⟩
def A7{K:W.Frag}(h:aG K H n [v] c b):∃u,b=[u]:=by let⟨u,us,rfl,_,a⟩:=h;show⟨u,by rw[a]⟩
section
variable{K:W.Frag}{mg:Str->Option Value}{C D c1 c2 c3 fI:Addr}{fdI:FuncData}(cl:GD K mg C D c1 c2 c3 fI fdI){p:Program}{w:World}{base:Heap}{k:Nat}
include cl
def LV(Y:kN K mg "steps_of" A4 ["board"] f O)(n:∀y g,F.lookup y=some g->∃b L J,mg y=some (.ref b)/\PySem.W.keepIn K (.ref b)=true/\Binds K L J []/\bI p w K mg base eU (k+3) b L J (pS K (aF P (k+3) g))) :
  bI p w K mg base (GF p w C) (k+4) f O ["board"] (Kt K C):=by
 show X_91 (λoc od kV S pm an a0 ct a1=>X_03 λR9 X r=> ?_) Y.fn.ex;subst R9;let⟨b,L,J,m1,T,m3,F0⟩:=n "crossing_rows" 142 rfl;show xX X r A1 (λvs H Q E h=> ?_) λA outer s H vs Q E hr h=> ?_
 ·let⟨c,i,j,_,m,_⟩:=h
  let⟨u,rfl⟩:=A7 m;rfl
 ·let⟨c,i,j,N,m,cr,q⟩:=h
  let⟨w',w1,U,R⟩:=N.wide;let⟨v,l,x⟩:=C8 k c w' R N.few U;obtain rfl:=qg x cr;let⟨u,rfl⟩:=A7 m;exists _,aK (au (i:=1) A1.nd rfl (Or.inl rfl) (bE F0 hr rfl m1 T m3 .nil cY (aC (pv 0) aH))) (aK (jd (pi (Ea (pv 1))) (aS (yq (W:=λe C' dd H1=>C' =C/\H e=none/\E (.ref C) dd (yw H1 e)) rfl (ID (E:=λ_ _ _=>False) cl.mx (FA (k:=0) cl) (hr.mono 00) rfl cl.kC.nm (FE cl) .nil (aC (pv 1) aH)) λpins σ H1 s1 e C' dd I ea w=>by let⟨rfl,Z,q⟩:=w;show vK I Z ea q)) dq) jc),?_
  show⟨u,rfl,_,_,m,l,λt H1 s1 rt=> ?_⟩;let tn:t≠.non:=λz=>by rw[z]at rt;let⟨a,_,e,_⟩:=Rp.tup.mp rt;ext e
  show⟨t,rfl,_,rfl,?_⟩;rw[Nu tn];show kY ⟨t,rfl,by change 1<=sizeLine;decide,λe he=>⟨e,C,t,rfl,aB,cl.mx,λd hd hde=>⟨rfl,Y_56 e C fI ("rows") (some d) rfl cl.mx ?_ rfl (s1.free he) ?_⟩⟩⟩
  ·rw[aA (OC hde),aB]
  ·let A:H1 d=none:=by rwa[aA hde]at hd
   let M:aD H1 (yw (upd (upd (upd H1 e (XN C none e)) e (XN C (some d) e)) d (.xd [("rows",t)])) e):=λb o z=>by rwa[eD (aE z he),aA (aE z A),aA (aE z he),aA (aE z he)]
   show q _ d t (s1.trans M) (by rw[eD hde,aB]) (rt.mono M)
def LU(A:kN K mg "factors_of" D8 ["board"] f r)(d:kN K mg "steps_of" A4 ["board"] L e)(l:∀y g,F.lookup y=some g->∃b o n,mg y=some (.ref b)/\W.keepIn K (.ref b)=true/\Binds K o n []/\bI p w K mg base eU (k+3) b o n (pS K (aF P (k+3) g))) :
  bI p w K mg base (GF p w C) (k+5) f r ["board"] (Kt K C):=by
 show X_91 (λR T S v X U I ct O=>X_03 λR9 x m=> ?_) A.fn.ex;subst R9;show xX x m A0 (λvs H Q E h=> ?_) λA outer s H vs Q E hr h=> ?_
 ·let⟨a,i,j,_,c,_⟩:=h
  let⟨u,rfl⟩:=A7 c;rfl
 ·let⟨a,i,j,M,c,N,q⟩:=h
  let⟨u,rfl⟩:=A7 c;exists _,aK (au (i:=1) A0.nd rfl (Or.inl rfl) (bE (LV cl d l) hr rfl d.nm d.fn.kp d.bd .nil (Eb λ_ _ z=>z) (aC (pv 0) aH))) jc,?_;show⟨u,rfl,a,i,j,M,c,N,q⟩
end
end
def lv20{k:Nat}(h:aF P k 20020 [.non]=some v):21<=k:=by
 by_cases a:21<=k;show a
 ·let e:∀k,k<21->(aF P k 20020 [.non]).isNone=true:=by decide +kernel
  have:=e k 00;rw[h]at this;ext this
def uP{k:Nat}(h:bv (bc (aF P k) 1000000 (.cons (.drop (.call g es)) ss) τ)=some r):∃rs x,eJ (aF P k) es τ=some rs/\aF P k g (rs.map RV.val)=some x/\bv (bc (aF P k) 1000000 ss τ)=some r:=by
 rw[oz,show gW (aF P k) 1000000 (.drop (.call g es)) τ=(aX (aF P k) (.call g es) τ).map λ_=>.nx τ from rfl,show aX (aF P k) (.call g es) τ=(eJ (aF P k) es τ).bind λrs=>(aF P k g (rs.map RV.val)).map told from rfl]at h;cases e:eJ (aF P k) es τ with
 |none=>rw[e]at h;ext h|some rs =>
  rw[e,NU]at h;cases e2:aF P k g (rs.map RV.val)with
  |none=>rw[e2]at h;ext h|some x=>rw[e2]at h;exists rs,x,rfl,e2,h
open J in
def xa{k:Nat}(h:aF P (k+1) 217 c=some r):21<=k/\∃a:List Str,c=[.tup (a.map .str)]/\UM.cq 8 a:=by
 rw[ii,show P 217=some Jd from rfl,NU]at h
 split at h
 case isFalse=>ext h
 rename_i g;let⟨v,rfl⟩:=Ex (show c.length=1 from g);let⟨_,_,d,b,h⟩:=uP h;ext d;let i:=lv20 b;let⟨_,x,d,b,h⟩:=uP h;ext d;obtain⟨k,rfl⟩:∃n,k=n +1:=⟨k-1,00⟩;let m:ub [v]=some x:=by
  have:bv (((ub [v]).map Fl.rt).bind λf=>fY f λτ1=>some (.nx τ1))=some x:=b;cases e:ub [v]with
  |none=>rw[e]at this;ext this|some y =>rwa[e]at this
 show X_02 (λ_=>X_12 λa j l=> ?_) (Fp m);show⟨i,Y_12 a j l⟩
section
open PySem.Spec PyProof.Rows L2.XN XE
theorem Az:bA KG ["board"] (aI yh):=⟨rfl,rfl,rfl,01,rfl,01,01⟩
def v8{K:W.Frag}(h:X.K=K):fH X (binaryOp .Add) (λx y H Q=>∃(l b:Addr)(a c:List V),x=.ref l/\y=.ref b/\bG K H l a/\bG K H b c/\a.length+c.length<=sizeLine/\∀p,H p=none->Q (.ref p) (upd H p (.lst (a++c)))):=by subst h;show xC
def Es{K:W.Frag}(h:X.K=K):bQ X (.type "list") (λxs H Q=>∃p a,xs=[.ref p]/\(bG K H p a\/dg K H p a)/\∀l,H l=none->Q (.ref l) (upd H l (.lst a))):=by subst h;show kG
def rZ:List Stmt->List Stmt
 | .Try _ [.ExceptHandler _ _ s _] _ _ _::_=>s|_::r=>rZ r|[]=>[]
def Ak{K:W.Frag}{f:Addr}{p:Program}{w:World}{base:Heap}{cdv:Value}{A:Around}{outer:List Env}{s:Shared}{H0:Hp}{E:XK}(L:h "list"=none)(O:GC K C J "rows") :
  ∃x:Addr->Option Addr->TS,(∀(e:Addr)(u:Option Addr)(pn:List (Addr×Obj)),rA (FG (iC eU p w K h base KG "words_of_factors" (aI yh) f cdv A outer s H0 E).nox e pn) (rZ (bO yh)) (x e u)) /\ ∀(e d:Addr)(t:V)(D:dX)(g:L2.St)(H n:Hp)(i j:Int),g[1]? =some (some (.ref e))->KM H C (some d) e->H d=some (.xd [("rows",t)])->Rp K n true (.tup [.int i,.int j]) H t->(∀m z,aD H m ->H z=none->m z=some (.lst [.str (Str.ofString "none"),.int i,.int j])->D.rt (.ref z) m)->x e (some d) D g H:=by
 let Y:∀e pn I v,PE (FG (iC eU p w K h base KG "words_of_factors" (aI yh) f cdv A outer s H0 E).nox e pn) (.Attribute (.Name "refusal" I) "rows" v) (GL K (HI 1) "rows"):=λe pn I v=>EV (pv 1) rfl;exists _,λe u pn=>aS (bo (bS (v8 rfl) (eB (aC gI aH)) (bh (Es rfl) rfl L Pu (aC (Y e pn _ _) aH)))),?_;intro e d t D g H n i j R Q M rt q;show⟨(by change 1<=sizeLine;decide),λa ha=> ?_⟩;let c:aD H (upd H a (.lst [.str (Str.ofString "none")])):=(aD.refl H).upd ha;let⟨t,us,rfl,X,T⟩:=Rp.tup.mp (rt.mono c);let U:=(aG.ints (xs:=[i,j])).mp T;subst U;show⟨_,R,e,C,J,d,_,.ref t,rfl,Q.mono c,c _ _ M,O,rfl,t,_,rfl,.inr X,λb hb=> ?_⟩;let r:a≠b:=λz=>by rw[<- z,aB]at hb;ext hb
 let l:H b=none:=by rwa[aA (OC r)]at hb
 show⟨a,b,_,_,rfl,rfl,bG.of (by rw[aA r];show aB),bG.of aB,(by change 3<=sizeLine;decide),λz hz=> ?_⟩;let S:z≠b:=λy=>by rw[y,aB]at hz;ext hz
 rw[aA S]at hz;let N:z≠a:=λy=>by rw[y,aB]at hz;ext hz
 rw[aA N]at hz;show q _ z (((c).upd l).upd hz) hz aB
def FM{K:PySem.W.Frag}{c1 c2 c3:Addr}(hG:∀x v,G.lookup x=some v->∃u w,J x=some u/\RelV w u/\∀Hi n H,Rp K Hi n v H w)(hB:∀x,B.contains x=true->J x=none)(I:My K J C D c1 c2 c3 fI a2)
  (S:kN K J "factors_of" D8 ["board"] f4 a1) (D3:kN K J "steps_of" A4 ["board"] f3 Z) (Df:kN K J "words_of_factors" yh ["board"] f fd) (p:Program) (w:World) (l:Heap) (k:Nat)
  (m:∀j,j<=k->∀y g,F.lookup y=some g->∃b gd qs,J y=some (.ref b)/\PySem.W.keepIn K (.ref b)=true/\Binds K gd qs []/\bI p w K J l eU j b gd qs (pS K (aF P j g))):bI p w K J l eU (k+1) f fd ["board"] (pS K (aF P (k+1) 217)):=by
 show Df.fn.ok Az (λvs H Q E h=> ?_) (λcdv A outer s H vs Q E hr h=> ?_)
 ·let⟨T,r,L,O,_⟩:=h
  rw[<- L.len];show X_02 (λ_=>X_12 λ_ R2 _=> ?_) (xa O);subst R2;rfl
 let⟨T,r,L,O,q⟩:=h;show X_02 (λhk=>X_12 λc R2 U=> ?_) (xa O);subst R2;obtain⟨k,rfl⟩:∃k',k=k' +21:=⟨k-21,00⟩;let⟨v,e,cs⟩:=Gi k c U;rw[e]at O;ext O;let⟨u,rfl⟩:=A7 L;let⟨b4,a3,a4,X,Y,a0,F4⟩:=m (k+21) (NB _) "factors_of" 144 rfl;let X4:=(LU (k:=k) I.cs S D3 (m (k+3) 00)).mono (show k+5<=k+21 by lia);let nd:=Az.nd;let⟨ts,hS,rS⟩:=Ak (p:=p) (w:=w) (base:=l) (f:=f) (cdv:=cdv) (A:=A) (outer:=outer) (s:=s) (H0:=H) (E:=E) (hB "list" rfl) I.cs.mx
 rcases cs with⟨cr,e4,rfl⟩|⟨i,j,_,_,cr,rfl⟩
 ·exists _,aS (wq (C:=C) (D:=C) (i:=1) rfl rfl rfl nd rfl rfl rfl I.cs.kC.nm (I.cs.kC.exm I.cs.sC I.sX) (λE pn W hp=>aS (bo (bS (v8 (K:=K) rfl) (eB (aC gI aH)) (bE F4 hr rfl X Y a0 .nil cY (aC (pv 0) aH))))) hS),?_
  change Ag C 1 _ ts _ [some u,none] H;exists λ_ _ _ _=>False,?_,λσ' H' dd _ z=>z.elim;show⟨(by change 1<=sizeLine;decide),λa ha=> ?_⟩;let N:aD H (upd H a (.lst [.str (Str.ofString "factors")])):=(aD.refl H).upd ha;let r0:Rp K H false (.tup (c.map .str)) H u:=by let⟨_,_,e,a,_⟩:=L;ext e;show a
  show⟨u,rfl,_,_,.cons ((r0.mono N).entry (λz=>by ext z)) .nil,e4,λu' H' M ru=> ?_⟩;let⟨b,us,rfl,nw,sb,rb⟩:=Rp.lst.mp ru;let eu:=aG.ints.mp rb;subst eu;show⟨a,b,_,_,rfl,rfl,bG.of (M _ _ aB),sb,(by rw[M0,(qV λz hz=>by let⟨w,_,w2,hw⟩:=U.wide;rw[hw z hz];show w2).1];change 9<=sizeLine;decide),λz hz=> ?_⟩;let sz:=N.trans M;show q _ _ (sz.upd (o:=.lst ([.str (Str.ofString "factors")]++(qW (sortI (c.map ba))).map .int)) (sz.free hz)) (Rp.lst.mpr (Y_24 z _ rfl (λ_=>⟨sz.free hz,aB⟩) (bG.of aB) (.cons (Rp.str.mpr rfl) (aG.ints.mpr rfl))))
 ·exists _,aS (wq (C:=C) (D:=C) (i:=1) rfl rfl rfl nd rfl rfl rfl I.cs.kC.nm (I.cs.kC.exm I.cs.sC I.sX) (λE pn W hp=>aS (bo (bS (v8 (K:=K) rfl) (eB (aC gI aH)) (BW X4 hr rfl S.nm S.fn.kp S.bd .nil hp (aC (pv 0) aH))))) hS),?_
  change Ag C 1 _ ts _ [some u,none] H;exists λσ' cls dd H' =>σ' =[some u,none]/\∃d t,dd=some d/\aD H H' /\H' d=some (.xd [("rows",t)])/\∃Hx,Rp K Hx true (.tup [.int (i:Nat),.int (j:Nat)]) H' t,?_,λσ' H' dd _ z e he=> ?_
  ·show⟨(by change 1<=sizeLine;decide),λa ha=> ?_⟩
   let N:aD H (upd H a (.lst [.str (Str.ofString "factors")])):=(aD.refl H).upd ha;let r0:Rp K H false (.tup (c.map .str)) H u:=by let⟨_,_,e,a,_⟩:=L;ext e;show a
   show⟨u,rfl,c,i,j,U,.cons ((r0.mono N).entry (λz=>by ext z)) .nil,cr,λH' d t M hd ht=>⟨rfl,Y_24 d t rfl (N.trans M) hd ⟨_,ht⟩⟩⟩
  ·show X_02 (λR0=>X_24 λd t R3 M hd=>X_11 λHx rt=> ?_) z;subst R0 R3
   let R:aD H' (upd H' e (XO C (some d) e)):=(aD.refl H').upd he;show rS e d t _ _ (upd H' e (XO C (some d) e)) Hx i j rfl (.inr aB) (R _ _ hd) (rt.mono R) λH2 z s2 z0 hz=> ?_;let sl:=(M.trans R).trans s2;show q _ _ sl (Rp.lst.mpr (Y_24 z _ rfl (λ_=>⟨(M.trans R).free z0,hz⟩) (bG.of hz) (.cons (Rp.str.mpr rfl) ((aG.ints (xs:=[(i:Int),(j:Int)])).mpr rfl))))
end
def A9(b:∀z∈a,z.length<=8):(cI a).getD 0 0=1:=by rw[jX b,List.range_succ_eq_map,NE,ci,Oo,M9 02];rfl
def c239(k:Nat){m:Nat}{A B:List Int}(p:UM.cq 8 a)(d:Wd a w)(g:w<=8)(O:1<=w)(h:Mx a w m A B)(H:DW a v):aF P (k+5) 239 [.str (bP "\n" (bt a w m A B v)),.tup (a.map .str)]=some (.bl true):=by
 show bX rfl rfl ?_;let e:=p.few;let o:∀z∈a,z.length<=8:=λz hz=>by rw[d z hz];show g
 let M:=bD a;let I:=BA p d g h H;let rl:=wj I;let mh:=h.hh;let Z:=h.hw;let N :=h.row;let⟨l3,R⟩:=lP e o;let⟨Y,Q⟩:=qO e g o;let al:=uW d e g;obtain⟨C,l⟩:∃z,a[0]? =some z:=by
  cases a with
  |nil=>show absurd rfl p.some|cons z r=>show⟨z,rfl⟩
 let q:C.length=w:=d C (NS l);let E:cH (a.map PV.str) 0=some (.str C):=u8 (i:=0) l;let J:∀y∈bt a w m A B v,∀c∈y.cps.toList,32<=c/\c<128:=λy hy=>by let⟨K,u,rfl⟩:=NA.mp hy;show B6 (I K u).2.2
 let gl:=qS (sep:="\n") rfl (bt a w m A B v);let W:(bt a w m A B v).length=5:=rfl;let L:du .split (.frz (.str (bP "\n" (bt a w m A B v))) true) [.frz (.str (Str.ofString "\n")) true]=some (.own ((bt a w m A B v).map .str) true):=by rw[show du .split (.frz (.str (bP "\n" (bt a w m A B v))) true) [.frz (.str (Str.ofString "\n")) true]=if _ then some (.own ((Txt.split (bP "\n" (bt a w m A B v)) NL).map PV.str) true)else none from rfl,M9 ⟨rfl,00⟩,<-hU,show Txt.split (Str.join (Str.ofString "\n") (bt a w m A B v)) NL=bt a w m A B v from UM.iP (c:=10) (λz=>by ext z) λy hy hc=>by have:=J y hy 10 hc;lia]
 let T:(if(w:Int)<(a.length:Int)then(w:Int)else(a.length:Int))=((min a.length w:Nat):Int):=by split<;>lia
 let S:(if(w:Int)>(a.length:Int)then(w:Int)else(a.length:Int))=((max a.length w:Nat):Int):=by split<;>lia
 let X:(List.range (min a.length w+1)).map (λj=>PV.int (mS (λs=>(cI a).getD s 0) (min a.length w) (max a.length w) j))=(fA a w).map .int:=by unfold fA;rw[NY];rfl
 let U:(fA a w).sum=(fl (max a.length w) (min a.length w):Int):=by unfold fA;rw[oF,zI 00];change(cI a).getD 0 0*_=_;rw[A9 o,Int.one_mul]
 let b:=C7 (k+3) (z:=Str.ofString "cells") (ns:=[((fk a w a.length).length:Nat)]) 02 03 (λx hx=>by rw[Nb.mp hx];show Dc 00);let D:=lX (ys:=[ln "cells" [((fk a w a.length).length:Nat)],ln "row" (cI a),ln "hits" (fA a w)]) (λy hy c hc=>by
  show(J y ?_ c hc).2;simp only[NH,Nk,Oa]at hy
  rcases hy with rfl|rfl|rfl
  ·show M7
  ·show M4 _ M7
  ·show M4 _ (M4 _ M7))
 simp only[NE,OH]at b D;simp only[Lu,entry];symm;rw[L];symm;rw[M,c229 (k+3) e o];symm;rw[E];symm;rw[len_str,M9 (by rw[q];change w<=16777216;lia)];symm;simp only[M0,q];rw[T];symm;rw[E];symm;rw[len_str,M9 (by rw[q];change w<=16777216;lia)];symm;simp only[q];rw[S];symm;rw[c232 (k+1) 00 00 00,X];symm;rw[M9 (by rw[M0];lia),aq (G:=λz=>PV.int (ba z)) (λz hz=>by rw[show du Bm.count (RV.frz (PV.str z) true) [RV.frz (PV.str (Str.ofString "x")) true]=some (sc (.int (Txt.count z (Str.ofString "x"))))from rfl,show(Str.ofString "x")=⟨#[120]⟩from rfl,mj];rfl)]
 symm;rw[show(a.map λz=>PV.int (ba z))=(a.map ba).map PV.int from by rw[NY];rfl];rw[show iJ Bf.sum [RV.own ((a.map ba).map PV.int) true]=(aP ((a.map ba).map PV.int)).map λns=>sc (.int ns.sum)from rfl,bC,OJ,NU,<-DP d];symm;rw[M0,W,show decide (((5:Nat):Int)=5)=true from rfl];symm;rw[bC,OJ,U];symm;rw[Fm (k+3) (n:=max a.length w) (f:=min a.length w) 00 00 rfl rfl];symm;rw[d9,show cut ((bt a w m A B v).map PV.str) none (some 3)=[PV.str (ln "cells" [((fk a w a.length).length:Nat)]),.str (ln "row" (cI a)),.str (ln "hits" (fA a w))]from rfl];symm;rw[b];symm;rw[C7 (k+3) 02 00 λx hx=>Oh (R x hx) 02];symm;rw[C7 (k+3) 02 00 Q];symm;rw[D];symm;rw[show cH ((bt a w m A B v).map PV.str) 3=some (.str (bP " " ((cJ m A B).map wS)))from rfl,show(((cI a).map PV.int).length:Int)-1=(m:Int)by rw[M0];lia];symm;rw[c235 (k+2) d p.some e g O h];symm;rw[show cH ((bt a w m A B v).map PV.str) 4=some (.str (GY a v))from rfl];symm;rw[c238 k d e g H];symm
def c219(k:Nat)(e:List Int)(Z:e.length<=63):∃v,aF P (k+1) 219 [.lst (e.map .int)]=some v/\∃ms:List Int,v=.lst (ms.map .int):=by
 show l5 rfl rfl ?_;simp only[L9,entry];symm;let J:(if(63:Int)<((e.map PV.int).length:Nat)then 63 else(((e.map PV.int).length:Nat):Int))=(e.length:Nat):=by rw[M0,NJ 00]
 rw[J];obtain⟨m,hm,m1⟩:∃m:Nat,(if((e.length:Nat):Int)>1 then((e.length:Nat):Int)else 1)=m/\1<=m:=by
  split;exists e.length,rfl,by lia
  ·exists 1,rfl,by lia
 rw[hm,d9,show(63:Int)=((63:Nat):Int)from rfl,xo,<-Pk,ju];symm;rw[show∀l,iJ Bf.list [RV.own l true]=some (.own l true)from λ_=>rfl,NU,show eM .Add (RV.own (List.map PV.int (List.take 63 e)) true) (RV.own [PV.int 0] true)=iQ (List.map PV.int (List.take 63 e)++[PV.int 0]) (true&&true)from rfl];unfold iQ;rw[M9 (by change _<=16777216;simp;lia),NU,vE,xo];obtain⟨g,C,c1⟩:∃g:List Int,(List.map PV.int (List.take 63 e)++[PV.int 0]).take m=g.map .int/\1<=g.length:=by
  exists (e.take 63++[0]).take m,?_,?_
  ·rw[show List.map PV.int (List.take 63 e)++[PV.int 0]=List.map PV.int (List.take 63 e++[0])from by rw[NP];rfl,<-Pk]
  ·rw[OF,NO];change 1<=min m (_+1);lia
 let cl:g.length<=64:=by
  have:=N6 List.length C;rw[OF,NO,M0,M0,OF]at this;have:g.length<=min 63 e.length+1:=by rw[<- this];show Nat.min_le_right _ _
  lia
 rw[C];symm;let s:∀(l:List Int)j,j<l.length->∃x,cH (l.map PV.int) j=some (.int x):=λl j h=>⟨l[j],bY (by rw[NG,M5 h];rfl)⟩;let⟨Q,H⟩:=s g 0 00;let H:cH (g.map PV.int) 0=some (.int Q):=H;rw[H];symm;rw[H];symm;rw[set_own (j:=0) rfl (qH (by rw[M0];lia)),<-List.map_set];obtain⟨D,L⟩:∃D,D=decide (Q%2=1):=⟨_,rfl⟩;obtain⟨d,K,dl⟩:∃d,d=g.set 0 (Q/2)/\d.length=g.length:=(Y_12 _ rfl OU);rw[<- L,<-K];symm;let U:(RV.bor (.lst (d.map .int))).its=some (d.map .int,true):=M9 (ju d);rw[show iJ Bf.list [RV.bor (.lst (d.map .int))]=some (.own (d.map .int) true)from by change(match(RV.bor (.lst (d.map .int))).its with|some (xs,n)=>some (RV.own xs n)|none=>none)=_;rw[U]]
 symm;show cK (xs:=(List.range 200).map λi=>.int (0+(i:Nat))) (n:=true) ?_ (λi O=>∃(o f:List Int)(a b c:TV),O=[.frz (.lst (e.map .int)) false,.own (d.map .int) true,.frz (.bl D) true,.own (o.map .int) true,.own (f.map .int) true,a,b,c]/\o.length=d.length/\f.length<=i) ⟨d,[],_,_,_,rfl,rfl,NB _⟩ ?_ ?_
 ·symm
  rfl
 ·intro i y O R zm;show X_51 (λo f a b c=>X_03 λR5 N S=> ?_) zm;subst R5
  obtain⟨hi,rfl⟩:i<200/\y=.int (0+i):=by rw[NG]at R;let⟨j,W,rfl⟩:=map_some R;let⟨w,E⟩:=NC.mp W;rw[PB]at E;show⟨w,by rw[E]⟩
  exists _,rfl,?_;symm;rw[M9 (by rw[M0];lia)];obtain⟨r,hr,X⟩:∃r:Nat,((0:Int)+i)%(((d.map PV.int).length:Nat):Int)=r/\r<d.length:=by rw[M0];let w:=Pn ((0:Int)+(i:Nat)) (show 0<((d.length:Nat):Int)by lia);exists (((0:Int)+(i:Nat))%(d.length:Nat)).toNat,00,by lia
  rw[hr];let⟨x,M⟩:=s o r 00;let⟨z,Y⟩:=s d r X;symm;rw[M];symm;obtain⟨p,A⟩:∃p:Bool,(if D=true then((Option.map jq (cH (List.map PV.int o) (r:Int))).bind λx=>Option.map (λr=>RV.frz (PV.bl r) true) (bB CmpOp.NotIn x.val (PV.lst [PV.int 0,PV.int (-1)]))).bind λx=>nu x.val else some false)=some p:=by
   rw[M];cases D with
   |false=>show⟨false,rfl⟩|true =>show⟨!([0,-1]:List Int).contains x,?_⟩;rw[M9 rfl,OJ,NU,show(jq (PV.int x)).val=.int x from rfl,show PV.lst [PV.int 0,PV.int (-1)]=.lst (([0,-1]:List Int).map .int)from rfl,gM];rfl
  rw[A,NU];cases p with
  |true =>rw[M9 rfl,M];symm;rw[set_own rfl (qH (by rw[M0];lia)),<-List.map_set];symm;rw[cX rfl (by rw[M0];change f.length<16777216;lia)];symm;show⟨o.set r (x/2147483629),f++[x%2147483629],_,_,_,by rw[NP];rfl,by rwa[OU],by rw[NO];change _+1<=_;lia⟩
  |false =>
   rw[NJ ND,Y];symm;rw[M9 (Or.inl ⟨00,00⟩)];symm;obtain⟨u,w⟩:∃u:Int,u=(z%2147483629*48271+7919*(0+(i:Int))*(0+(i:Int))+104729)%2147483647:=⟨_,rfl⟩;let b1:0<=u/\u<2147483647:=by rw[w];show⟨QF _ 02,Pn _ 02⟩
   rw[<- w];symm;rw[M9 (Or.inl ⟨00,00⟩)];symm;obtain⟨I,E⟩:∃I:Int,I=u*u%2147483629:=⟨_,rfl⟩;let b2:0<=I/\I<2147483629:=by rw[E];show⟨QF _ 02,Pn _ 02⟩
   symm;rw[M9 (Or.inr ⟨00,00⟩)];symm;rw[cX rfl (by rw[M0];change f.length<16777216;lia)];symm;show⟨o,f++[_],_,_,_,by rw[NP];rfl,N,by rw[NO];change _+1<=_;lia⟩
 ·intro O zm;show X_51 (λo f a b c=>X_03 λR5 N S=> ?_) zm;subst R5
  symm;rw[show yk (RV.bor (.lst (f.map .int)))=some (.own (f.map PV.int).reverse true)from by unfold yk;rw[show(RV.bor (.lst (f.map .int))).its=some (f.map .int,true)from M9 (ju f)];rfl]
  symm;show Y_12 _ rfl ⟨f.reverse,by rw[List.map_reverse]⟩
section
open PySem.Spec PyProof.Rows L2.XN XE
def qR(k:Nat){w:Nat}(d:UM.cq 8 a)(b:Wd a w)(g:1<=w)(c:w<=8):∃T,aF P (k+23) 218 [.str (Str.join NL a)]=some (.str T)/\aF P (k+23) 239 [.str T,.tup (a.map .str)]=some (.bl true):=by
 let h:(Str.join NL a).length<=1000:=by
  have:=tZ λp hp=>by rwa[b p hp]
  have:=d.few;lia
 show X_12 (λ_ e=>X_41 λm A B v=>X_03 λf i R8=> ?_) (c218 k a w d b c h);subst R8;exists _,e,c239 (k+18) d b c g f i
theorem pY:bA KC ["_law_script"] (aI sE):=⟨rfl,rfl,rfl,01,rfl,01,01⟩
abbrev MN:Ct:=⟨KC,(aI sE).names,F,G,B,[]⟩
theorem ud(d:a.length=n)(g:1<=n)(h:n<=8)(e:1<=w)(f:w<=8)(b:∀r∈a,r.length=w/\∀c∈r.cps.toList,c=120\/c=46):UM.cq 8 a := ⟨λz=>by rw[z]at d;simp at d;lia,00,Y_13 w e f (λz hz=>(b z hz).1),λz hz=>(b z hz).2⟩
abbrev KQ(i:Nat):IE:=.mth .join (.con (.str "\n")) (.cons (.var i) .nil)
def GZ{cf:Nat->List PV->Option PV}{τ:En}{i:Nat}(h:lI τ i=some (.frz (.tup (a.map .str)) true))(b:(a.map (·.length)).sum+a.length<=16777216):aX cf (KQ i) τ=some (.frz (.str (Str.join NL a)) true):=by rw[cu,cw,nG,ni,show aX cf (.var i) τ=lI τ i from rfl,h];change(bL (a.map PV.str)).bind _=_;rw[br,NU,show(if(a.map (·.length)).sum+a.length*Str.length "\n"<=LN then some (sc (.str (bP "\n" a)))else none)=some (sc (.str (bP "\n" a)))from M9 (by change(a.map (·.length)).sum+a.length*1<=16777216;lia),<-hU];rfl
def GQ(h:lI a i=some (.frz (.str z) true))(r:aF P 39 218 [.str z]=some (.str T)):aX (aF P 39) (.call 218 (.cons (.var i) .nil)) a=some (.frz (.str T) true):=by rw[cL,nG,ni,show aX (aF P 39) (.var i) a=lI a i from rfl,h];change(aF P 39 218 [.str z]).map told=_;rw[r];rfl
theorem FW:UM.cq 8 [(⟨#[120,120]⟩:Str),⟨#[46,120]⟩]:=⟨03,02,Y_13 2 02 02 02,02⟩
def Lc{K:W.Frag}{m:Str->Option Value}{fn fs:Addr}(hG:∀x v,G.lookup x=some v->∃u w,m x=some u/\RelV w u/\∀Hi n H,Rp K Hi n v H w)(hB:∀x,B.contains x=true->m x=none)
  (DN:kN K m "_law_next" vH ["_law_drawn"] fn Y) (DO:kN K m "_law_order" yg ["_law_drawn","_law_many"] fo a3) (DS:kN K m "_law_stair" vG ["_law_drawn","_law_rows","_law_columns_here"] fs Z) (D:kN K m "_law_board" D7 ["_law_drawn"] fb a1) (Df:kN K m "law" sE ["_law_script"] f fd)   {o:Heap}
  (d:∀j y g,F.lookup y=some g->∃b O R,m y=some (.ref b)/\W.keepIn K (.ref b)=true/\Binds K O R []/\bI p w K m o eU j b O R (pS K (aF P j g))):bI p w K m o eU 40 f fd ["_law_script"] (wb K):=by
 let FB:=(DA (k:=35) hG hB DN DO DS D (d 37)).mono (show 39<=39 by lia);let⟨a6,a5,a4,d1,d2,d3,FD⟩:=d 39 "_law_draws" 219 rfl;show Df.fn.ok pY (λvs H Q E h=> ?_) (λcdv A outer s H vs Q E hr h=> ?_)
 ·let⟨a,ns,rfl,_⟩:=h
  rfl
 let⟨a,ns,rfl,hS,a0,q⟩:=h;let N:=pY.nd
 let M:bj (aF P 39) (iC eU p w K m o KC "law" (aI sE) f cdv A outer s H E).nox MN :=
  ⟨rfl,pY.nd,rfl,pY.kind,rfl,hG,hB,λy g hy=>by let⟨b,O,R,z1,z2,z3,z4⟩:=d 39 y g hy;show⟨39,b,O,R,z4,hr,z1,z2,z3⟩,Ny,hr.units⟩
 exists _,aK (au (i:=1) N rfl (Or.inl rfl) (bE FD hr rfl d1 d2 d3 .nil cY (aC (pv 0) aH))) (aK (au (i:=2) N rfl (Or.inl rfl) (bE FB hr rfl D.nm D.fn.kp D.bd .nil cY (aC (pv 1) aH))) (aK (au (i:=3) N rfl (Or.inl rfl) aT) (aK (au (i:=4) N rfl (Or.inl rfl) aT) (aK (jd (PW.pt (BE (vN (vM aT)) (vL (vN (vM aT))))) jc dq) (aK (au (i:=5) N rfl (Or.inl rfl) (bE FB hr rfl D.nm D.fn.kp D.bd .nil cY (aC (pv 1) aH))) (aS (bo aT))))))),?_
 show X_12 (λ_ L=>X_11 λms R3=> ?_) (c219 38 ns a0);subst R3;show⟨_,rfl,[.lst (ns.map .int)],_,.cons (Rp.lst.mpr (Y_24 a _ rfl (λz=>by ext z) hS (aG.ints.mpr rfl))) .nil,L,λu H1 s1 ru=> ?_⟩;let⟨l,us,rfl,nw,sl,rl⟩:=Rp.lst.mp ru;let C:=aG.ints.mp rl;subst C;let h1:=(nw rfl).2;show⟨_,rfl,l,ms,rfl,h1,λn w' n1 n8 w1 w8 c t H2 c2 t0 e2 rl sg=> ?_⟩;let bd:=ud rl n1 n8 w1 w8 sg;let S:Wd c w' :=λr hr=>(sg r hr).1;let tl:t≠l:=λe=>by rw[e,h1]at t0;ext t0
 let jl:∀{c:List Str}{w:Nat},UM.cq 8 c->Wd c w->w<=8->(c.map (·.length)).sum+c.length<=16777216:=λ{c w} b S w8=>by
  have:=b.few;let hs:(c.map (·.length)).sum<=8*c.length:=lw λp hp=>by rw[S p hp];show w8
  lia
 let⟨T,r1,g1⟩:=qR 16 bd S w1 w8;let⟨T2,r2,g2⟩:=qR 16 (w:=2) FW (λr hr=>by simp only[NH,Nk,Oa]at hr;rcases hr with rfl|rfl<;>rfl) 02 02
 let R1:aY K H2 [] [.un,.un,.frz (.tup (c.map .str)) true,.un,.un,.un] [some (.ref a),some (.ref l),some (.ref t),none,none,none] H2 :=
  aY.consU (aY.consU (aY.consF (aY.consU (aY.consU (aY.consU yn))) (Rp.tup.mpr (Y_23 t _ rfl (dg.of (by rw[jv];show e2)) aG.strs2))))
 show JZ (n:=80) (e' :=KQ 2) M 04 (GZ rfl (jl bd S w8)) R1 λu H3 s3 ok3=> ?_;let C:u=.str (Str.join NL c):=by ext ok3;rfl
 subst C
 let R2:aY K H3 [] [.un,.un,.un,.frz (.str (Str.join NL c)) true,.un,.un] [some (.ref a),some (.ref l),some (.ref t),some (.str (Str.join NL c)),none,none] H3 :=
  aY.consU (aY.consU (aY.consU (aY.consF (aY.consU (aY.consU yn)) (Rp.str.mpr rfl))))
 show JZ (n:=80) (e' :=.call 218 (.cons (.var 3) .nil)) M 04 (GQ rfl r1) R2 λu H4 s4 ok4=> ?_;let C:u=.str T:=by ext ok4;rfl
 subst C;let g4:=(s3.trans s4) _ _ e2
 let R3:aY K H4 [] [.un,.un,.frz (.tup (c.map .str)) true,.un,.frz (.str T) true,.un] [some (.ref a),some (.ref l),some (.ref t),some (.str (Str.join NL c)),some (.str T),none] H4 :=
  aY.consU (aY.consU (aY.consF (aY.consU (aY.consF (aY.consU yn) (Rp.str.mpr rfl))) (Rp.tup.mpr (Y_23 t _ rfl (dg.of (by rw[jv];show g4)) aG.strs2))))
 show JZ (n:=80) (e' :=.call 239 (.cons (.var 4) (.cons (.var 2) .nil))) (r:=sc (.bl true)) M 04 (by rw[cL,nG,nG,ni];change(aF P 39 239 [.str T,.tup (c.map .str)]).map told=_;rw[g1];rfl) R3 λu H5 s5 ok5=> ?_
 let C:u=.bl true:=by ext ok5;rfl
 subst C;exists true,rfl,lG ?_
 show JZ (n:=80) (e' :=.call 239 (.cons (.call 218 (.cons (.con (.str "xx\n.x")) .nil)) (.cons (.tup (.cons (.con (.str "xx")) (.cons (.con (.str ".x")) .nil))) .nil))) (r:=sc (.bl true)) M 04 (by rw[show Str.join NL [(⟨#[120,120]⟩:Str),⟨#[46,120]⟩]=Str.ofString "xx\n.x" by decide +kernel]at r2;rw[show[(⟨#[120,120]⟩:Str),⟨#[46,120]⟩]=[Str.ofString "xx",Str.ofString ".x"]by decide +kernel]at g2;simp only[NE,OH]at g2;symm;rw[r2];symm;rw[g2];symm) (R3.ext s5) λu H6 s6 ok6=> ?_
 let C:u=.bl true:=by ext ok6;rfl
 subst C;exists true,rfl,lG ?_;let U:=((s3.trans s4).trans s5).trans s6;let⟨X,gl⟩:=c2.1;let a2:=U _ _ gl;show⟨_,rfl,l,X,rfl,a2,λn' w2 n1' n8' w1' w8' rows2 t2 H7 c7 t20 e7 rl7 sg7=> ?_⟩;let J:=ud rl7 n1' n8' w1' w8' sg7;let I:Wd rows2 w2:=λr hr=>(sg7 r hr).1;let⟨T3,r3,g3⟩:=qR 16 J I w1' w8'
 let R4:aY K H7 [] [.un,.un,.un,.frz (.str (Str.join NL c)) true,.frz (.str T) true,.frz (.tup (rows2.map .str)) true] [some (.ref a),some (.ref l),some (.ref t),some (.str (Str.join NL c)),some (.str T),some (.ref t2)] H7 :=
  aY.consU (aY.consU (aY.consU (aY.consF (aY.consF (aY.consF yn (Rp.tup.mpr (Y_23 t2 _ rfl (dg.of (by rw[jv];show e7)) aG.strs2))) (Rp.str.mpr rfl)) (Rp.str.mpr rfl))))
 let j3:=GZ (cf:=aF P 39) (τ:=[.un,.un,.un,.frz (.str (Str.join NL c)) true,.frz (.str T) true,.frz (.tup (rows2.map .str)) true]) (i:=5) rfl (jl J I w8')
 show JZ (n:=80) (e' :=.and (.call 239 (.cons (.call 218 (.cons (KQ 5) .nil)) (.cons (.var 5) .nil))) (.cmp .Eq (.call 218 (.cons (.var 3) .nil)) (.var 4))) (r:=sc (.bl true)) M 04 (by
  let r5:aX (aF P 39) (.call 218 (.cons (KQ 5) .nil)) [.un,.un,.un,.frz (.str (Str.join NL c)) true,.frz (.str T) true,.frz (.tup (rows2.map .str)) true]=some (.frz (.str T3) true):=by rw[cL,nG,ni,j3];change(aF P 39 218 [.str (Str.join NL rows2)]).map told=_;rw[r3];rfl
  let r6:aX (aF P 39) (.call 239 (.cons (.call 218 (.cons (KQ 5) .nil)) (.cons (.var 5) .nil))) [.un,.un,.un,.frz (.str (Str.join NL c)) true,.frz (.str T) true,.frz (.tup (rows2.map .str)) true]=some (sc (.bl true)):=by rw[cL,nG,r5,nG,ni];change(aF P 39 239 [.str T3,.tup (rows2.map .str)]).map told=_;rw[g3];rfl
  change(aX (aF P 39) (.call 239 (.cons (.call 218 (.cons (KQ 5) .nil)) (.cons (.var 5) .nil))) _).bind _=_;rw[r6];change(aX (aF P 39) (.call 218 (.cons (.var 3) .nil)) _).bind _=_;rw[GQ rfl r1];change some (RV.frz (.bl (decide (T=T))) true)=_;rw[NX rfl]) R4 λu H8 s8 ok8=> ?_
 let C:u=.bl true:=by ext ok8;rfl
 subst C;show q _
end
end Law
namespace Law
open PySem PySem.Spec PyProof.Rows L2 IR
abbrev wK(e:Str)(d:List Str)(b:Stmt):Prop:=∀(h a f:Value)(g:Option Addr)(c ct:Value)(us:List Value),us.length=d.length->bindArgs (W.fnOf e e (cF b) (bO b) (aI b) .none h a f g c ct) ⟨us,[]⟩=pure (d.zip us)
local macro_rules | `(tactic| walk_at "bd1") => `(tactic| (intro _ _ _ _ _ _ us hl; obtain ⟨_, h⟩ := Ex hl; subst h; rfl))
local macro_rules | `(tactic| walk_at "bd2") => `(tactic| (intro _ _ _ _ _ _ us hl; obtain ⟨_, _, h⟩ := Ew hl; subst h; rfl))
local macro_rules | `(tactic| walk_at "bd3") => `(tactic| (intro _ _ _ _ _ _ us hl; obtain ⟨_, _, _, h⟩ := Lb hl; subst h; rfl))
local macro_rules | `(tactic| walk_at "bd4") => `(tactic| (intro _ _ _ _ _ _ us hl; obtain ⟨_, _, _, _, h⟩ := len4 hl; subst h; rfl))
local macro_rules | `(tactic| walk_at "sc") => `(tactic| exact ⟨rfl, rfl, rfl, by decide +kernel, rfl, by decide +kernel, by decide +kernel⟩)
theorem nO{K:W.Frag}(X:K.In h)(b:h.Ns mainGlobals a)(z:W.nsIn K mainGlobals x=some none):a x=none:=W.mg_none_of X b z
section
variable{K:W.Frag}{h:Heap}{mg:Str->Option Value}{nm:Str}{ps:List Str}{st:Stmt}{f:Addr}{k:Nat}{oc kV doc pm cd ct:Value}{od an:Option Addr}{sl:Array (Option Value)}(X:K.In h)(Gh:h.Ns mainGlobals mg)(a:FI K nm st f oc kV doc pm cd ct od an sl)
include X Gh a
theorem zA(b:wK nm ps st):kN K mg nm st ps f (W.fnOf nm nm (cF st) (bO st) (aI st) .none kV doc pm an cd ct):=⟨CY a.l a.c a.k,W.mg_of X Gh a.a,(CY a.l a.c a.k).binds b⟩
theorem mkE(N:List Str)(n:Nat)(M:List Nat){body:uu}(b:wK nm (N.take n) st)(c:bA N (N.take n) (aI st))(e:P k=some ⟨N.length,(N.take n).length,body⟩)(d:fw 80 ⟨N,(aI st).names,F,G,B,M⟩ (bO st)=body):AE K mg P F G B nm k f (W.fnOf nm nm (cF st) (bO st) (aI st) .none kV doc pm an cd ct) (N.take n):=⟨.inr ⟨st,N,M,80,body,zA X Gh a b,c,e,d⟩⟩
omit a in
def gN(a:FX K nm st)(N:List Str)(n:Nat)(M:List Nat){body:uu}(b:wK nm (N.take n) st)(d:bA N (N.take n) (aI st))(e:P k=some ⟨N.length,(N.take n).length,body⟩)(g:fw 80 ⟨N,(aI st).names,F,G,B,M⟩ (bO st)=body):∃a i c,AE K mg P F G B nm k a i c:=by show X_101 (λ_ _ _ _ _ _ _ _ _ _ a=> ?_) a;exists _,_,_,mkE X Gh a N n M b d e g
end
open H
def Jw{l:W.OpenLaw}{K:W.Frag}{h:Heap}(X:K.In h)(c:h.Ns mainGlobals q)(b3:q "law"=some (.ref fa))(T:Mj K) :
  ∃S:FuncData,(∀(s:Shared)(v:Value),BindsTo s S ⟨[v],[]⟩ [("_law_script",v)])/\∀d:Heap,K.In d->d.Ns mainGlobals q->bI l.prog w K q d eU 40 fa S ["_law_script"] (wb K):=by
 let M:∀x,B.contains x=true->q x=none:=eF (nO X c T.z0) (eF (nO X c T.z1) (eF (nO X c T.z2) (eF (nO X c T.z3) (eF (nO X c T.z4) (eF (nO X c T.z5) (eF (nO X c T.z6) (eF (nO X c T.z7) (eF (nO X c T.z8) (eF (nO X c T.z9) (eF (nO X c T.z10) (eF (nO X c T.z11) (eF (nO X c T.z12) (eF (nO X c T.z13) (eF (nO X c T.z14) (bnil)))))))))))))));let Q:∀x v,G.lookup x=some v->∃u w,q x=some u/\RelV w u/\∀Hi n H,Rp K Hi n v H w:=by let⟨k0,v0⟩:=T.v0;let⟨k1,v1⟩:=T.v1;let⟨k2,v2⟩:=T.v2;show CV (Y_23 _ (.str "x") (W.mg_of X c v0) ⟨_,rfl⟩ (λ_ _ _=>Rp.str.mpr rfl)) (CV (Y_23 _ (.str ".") (W.mg_of X c v1) ⟨_,rfl⟩ (λ_ _ _=>Rp.str.mpr rfl)) (CV (Y_23 _ (.int 8) (W.mg_of X c v2) ⟨_,rfl⟩ (λ_ _ _=>Rp.int.mpr rfl)) (gnil)))
 show X_101 (λi gi _ _ _ _ _ _ _ _=>X_61 λ_ _ _ _ _ _ C=> ?_) T.cx;let N:GD K q i i i i i gi _:=⟨⟨C.j0,Y_12 _ C.i1 rfl,C.h0,⟨C.e0,C.e1,C.e2,C.e3,C.e4,C.e5,C.e6,by rw[C.yc0];rfl⟩,C.h1,C.h2,C.h3,C.h4⟩,⟨W.mg_of X c C.y0,by rw[C.yc0];rfl,C.yt0⟩,C.b0,⟨_,_,_,_,_,_,_,_,_,_,_,_,_,_,rfl,C.i1,C.i2,C.i3⟩⟩;let cls:My K q i i i i i gi _:=⟨N,C.b7⟩;show X_101 (λf6 p6 t6 u6 w6 y6 m6 q6 x6 r6 a6=> ?_) T.a6;let R:=zA X c a6 (show wK "with_line" ["levels","bits"] _ by walk_at "bd2");show X_101 (λp1 n1 g3 m1 g1 p2 e7 n' s5 o1 c8=> ?_) T.a14;let J:=zA X c c8 (show wK "takes_column" ["choices","holders","row","tried"] _ by walk_at "bd4");show X_101 (λp4 g7 f7 f9 r2 n4 f5 n2 h8 q2 c5=> ?_) T.a15;let E:=zA X c c5 (show wK "holders_of" ["choices"] _ by walk_at "bd1");show X_101 (λm4 h9 h6 q5 r8 e' r7 l8 k5 f4 b6=> ?_) T.a21;let Y:=zA X c b6 (show wK "steps_of" ["board"] _ by walk_at "bd1");show X_101 (λf3 g4 f0 s4 o2 f' m2 l3 k3 q8 b'=> ?_) T.a22;let c7:=zA X c b' (show wK "factors_of" ["board"] _ by walk_at "bd1");show X_101 (λf1 g6 g8 f8 h5 q1 j3 n0 h' l4 c'=> ?_) T.a26;let L:=zA X c c' (show wK "words_of_factors" ["board"] _ by walk_at "bd1");show X_101 (λl1 q9 n7 p3 p5 r4 r' l0 e8 r1 a'=> ?_) T.a29;let r:=zA X c a' (show wK "_law_next" ["_law_drawn"] _ by walk_at "bd1");show X_101 (λr3 p' r0 m3 j5 d5 o' j6 k' q4 Z=> ?_) T.a30;let o:=zA X c Z (show wK "_law_order" ["_law_drawn","_law_many"] _ by walk_at "bd2");show X_101 (λi0 j2 o3 p0 d' q3 e9 l' i4 q' b5=> ?_) T.a31;let m:=zA X c b5 (show wK "_law_stair" ["_law_drawn","_law_rows","_law_columns_here"] _ by walk_at "bd3");show X_101 (λg' q7 j' o4 j4 n3 h7 f2 l2 g2 c4=> ?_) T.a32;let D:=zA X c c4 (show wK "_law_board" ["_law_drawn"] _ by walk_at "bd1");show X_101 (λr5 m0 q0 m5 m' k4 k6 m8 n5 p9 b2=> ?_) T.a33;let I:=zA X c b2 (show wK "_law_row" ["_law_board_here"] _ by walk_at "bd1");show X_101 (λg5 j1 b4 c9 d4 U b8 n8 c6 i' O=> ?_) T.a44;let e:=b3.symm.trans (W.mg_of X c O.a);ext e;let A:=zA X c O (show wK "law" ["_law_script"] _ by walk_at "bd1");let hF:∀x f,F.lookup x=some f->∃a S ps,AE K q P F G B x f a S ps:=ac (gN (k:=0) X c T.a0 N0 1 [] 06 05 rfl 04) (ac (gN (k:=1) X c T.a1 N1 1 [] 06 05 rfl 04) (ac (gN (k:=2) X c T.a2 N2 1 [] 06 05 rfl 04) (ac (gN (k:=3) X c T.a3 N3 1 [1] 06 05 rfl 04) (ac (gN (k:=109) X c T.a4 N109 1 [] 06 05 rfl 04) (ac (gN (k:=46) X c T.a5 N46 1 [1] 06 05 rfl 04) (ac (Y_31 _ _ _ ⟨.inl ⟨R.nm,R.fn.kp,R.bd,λp w b k z=>JF (M "dict" rfl) (M "enumerate" rfl) R p w b k (z k (NB k))⟩⟩) (ac (gN (k:=48) X c T.a7 N48 1 [] 06 05 rfl 04) (ac (gN (k:=58) X c T.a8 N58 2 [] (by walk_at "bd2") 05 rfl 04) (ac (gN (k:=85) X c T.a9 N85 2 [] (by walk_at "bd2") 05 rfl 04) (ac (gN (k:=86) X c T.a10 N86 2 [] (by walk_at "bd2") 05 rfl 04) (ac (gN (k:=92) X c T.a11 N92 2 [] (by walk_at "bd2") 05 rfl 04) (ac (gN (k:=98) X c T.a12 N98 4 [] (by walk_at "bd4") 05 rfl 04) (ac (gN (k:=99) X c T.a13 N99 1 [] 06 05 rfl 04) (ac (Y_31 _ _ _ ⟨.inl ⟨J.nm,J.fn.kp,J.bd,gk (dz rfl)⟩⟩) (ac (Y_31 _ _ _ ⟨.inl ⟨E.nm,E.fn.kp,E.bd,λp w b k z=>FP (M "len" rfl) (M "range" rfl) J E p w b k (z k (NB k))⟩⟩) (ac (gN (k:=112) X c T.a16 N112 2 [] (by walk_at "bd2") 05 rfl 04) (ac (gN (k:=113) X c T.a17 N113 2 [2,3] (by walk_at "bd2") 05 rfl 04) (ac (gN (k:=114) X c T.a18 N114 1 [] 06 05 rfl 04) (ac (gN (k:=141) X c T.a19 N141 2 [] (by walk_at "bd2") 05 rfl 04) (ac (gN (k:=142) X c T.a20 N142 1 [] 06 05 rfl 04) (ac (gN (k:=143) X c T.a21 Mp 1 [] 06 05 rfl 04) (ac (gN (k:=144) X c T.a22 Mn 1 [] 06 05 rfl 04) (ac (gN (k:=32) X c T.a23 N32 1 [] 06 05 rfl 04) (ac (gN (k:=215) X c T.a24 N215 1 [] 06 05 rfl 04) (ac (gN (k:=216) X c T.a25 N216 1 [] 06 05 rfl 04) (ac (Y_31 _ _ _ ⟨.inl ⟨L.nm,L.fn.kp,L.bd,FM Q M cls c7 Y L⟩⟩) (ac (gN (k:=218) X c T.a27 N218 1 [] 06 05 rfl 04) (ac (gN (k:=219) X c T.a28 N219 1 [1,3,4] 06 05 rfl 04) (ac (Y_31 _ _ _ ⟨.inl ⟨r.nm,r.fn.kp,r.bd,gk (dz rfl)⟩⟩) (ac (Y_31 _ _ _ ⟨.inl ⟨o.nm,o.fn.kp,o.bd,gk (dz rfl)⟩⟩) (ac (Y_31 _ _ _ ⟨.inl ⟨m.nm,m.fn.kp,m.bd,gk (dz rfl)⟩⟩) (ac (Y_31 _ _ _ ⟨.inl ⟨D.nm,D.fn.kp,D.bd,gk (dz rfl)⟩⟩) (ac (Y_31 _ _ _ ⟨.inl ⟨I.nm,I.fn.kp,I.bd,λp w b k z=>FL Q M I p w b k (z k (NB k))⟩⟩) (ac (gN (k:=230) X c T.a34 N230 2 [] (by walk_at "bd2") 05 rfl 04) (ac (gN (k:=231) X c T.a35 N231 2 [] (by walk_at "bd2") 05 rfl 04) (ac (gN (k:=232) X c T.a36 N232 3 [3] (by walk_at "bd3") 05 rfl 04) (ac (gN (k:=233) X c T.a37 N233 2 [] (by walk_at "bd2") 05 rfl 04) (ac (gN (k:=234) X c T.a38 N234 1 [1] 06 05 rfl 04) (ac (gN (k:=235) X c T.a39 N235 3 [] (by walk_at "bd3") 05 rfl 04) (ac (gN (k:=236) X c T.a40 N236 1 [] 06 05 rfl 04) (ac (gN (k:=237) X c T.a41 N237 2 [] (by walk_at "bd2") 05 rfl 04) (ac (gN (k:=238) X c T.a42 N238 1 [] 06 05 rfl 04) (ac (gN (k:=239) X c T.a43 N239 2 [] (by walk_at "bd2") 05 rfl 04) (ac (Y_31 _ _ _ ⟨.inl ⟨A.nm,A.fn.kp,A.bd,gk (dz rfl)⟩⟩) (fnil)))))))))))))))))))))))))))))))))))))))))))));exists W.fnOf "law" "law" (cF sE) (bO sE) (aI sE) .none b4 c9 d4 c6 U b8,λs v=>.of_eq rfl,λbase _ _=> ?_;show Lc Q M r o m D A λj y g hy=>by let⟨b,gd,qs,dy⟩:=hF y g hy;let⟨z1,z2,z3⟩:=dy.def;exists b,gd,qs,z1,z2,z3,JK Q M hF j y g b gd qs dy
theorem walk{l:W.OpenLaw}{q:Program}{c:List Str}{r:(Str->Option Value)->Heap->Prop}{j:World->Heap->Prop}{d:DefRec}{K:Params->W.Frag}(p:l.most=some 63)(g:d.params.defaults=[])
  (o:∀(w:World)(h:Heap),j w h->(K w.params).In h)
  (F:∀(w:World)(e:Str->Option Value)(i:Addr)(h:Heap),(K w.params).In h->h.Ns mainGlobals e->e d.name=some (.ref i) -> ∃m:FuncData,(∀(s:Shared)(u:Value),BindsTo s m ⟨[u],[]⟩ [("_law_script",u)])/\∀b:Heap,(K w.params).In b->b.Ns mainGlobals e->bI l.prog w (K w.params) e b eU 40 i m ["_law_script"] (wb (K w.params))) :
  W.WalkO q c r j l.row.toRowW d [] (λf vs=>PySem.call f vs) :=
 L2.Dh p 02 g ⟨rfl,02,02⟩ o F (λ_ _ a ns hl _ hS=>⟨a,ns,rfl,hS,hl,λ_=>rfl⟩) λ_ _ _ _ _ z=>z
end Law
theorem PySem.Challenge.cw_unstruck_k81_whole_report_holds : PySem.Challenge.rw_unstruck_k81_whole_report.Holds := by
 show LH.head fun K YP d hn hd hY T=> ?_;show Law.walk (l:=PySem.Challenge.rw_unstruck_k81_whole_report) rfl hd hY fun w mg fa h X G m=>Law.Jw X G (by rw[<- hn];show m) (T w)
#print axioms PySem.Challenge.cw_unstruck_k81_whole_report_holds
