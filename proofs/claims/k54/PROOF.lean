import PyProof.Rows.All
import Wide.All
import OpenK.AllK
import Wide.FinOn
import Lean
import PyProof.EqAt
import PyProof.EqKinds
import PyProof.TupleCall
import PyProof.StrLawsTight
import PyProof.StrLawsChain
import PyProof.StrLawsOcc
import PyProof.Cells
import OpenK.KLine
import PyProof.SumAny
import PyProof.Rows.SortShell
import PyProof.DictItems
import PyProof.DictWalks
import KE.KRevIter
import PyProof.JoinWalk
import PyProof.CollectIter
import PyProof.StrLawsIn
import PyProof.Rows.SetFrom
import PyProof.CollectWalk
import PyProof.Rows.SortWalk
import KE.KSortTup
import KE.KxPercent
import PyProof.TupleOfGen
import KE.KDictList
import PyProof.P3In
import PyProof.NeData
import PyProof.FactsAll.tuple_2
import KE.KTryMore
import PyProof.ExcArgsOwn
import PyProof.ExcAttrAll.ValueError
import PyProof.ExcBaseAll.ValueError
import PyProof.InstStoreFacts
import PySem.Challenge.RW_unstruck_k54_order_refused
set_option bootstrap.genMatcherCode false
noncomputable section
local macro_rules|`($m:declModifiers def $i:declId $s:optDeclSig $v:declVal)=>if m.raw.getArgs.all (·.getNumArgs==0) then`(noncomputable def $i:declId $s:optDeclSig $v:declVal) else Lean.Macro.throwUnsupported
local macro_rules|`($m:declModifiers abbrev $i:declId $s:optDeclSig $v:declVal)=>if m.raw.getArgs.all (·.getNumArgs==0) then`(noncomputable abbrev $i:declId $s:optDeclSig $v:declVal) else Lean.Macro.throwUnsupported
set_option genSizeOf false
set_option genSizeOfSpec false
local macro_rules | `(tactic| omega) => `(tactic| first | lia | omega (config := {}))
set_option Elab.async false
set_option linter.all false
set_option maxRecDepth 100000
set_option maxHeartbeats 4000000
def MS:=@PySem.wpAny_bind
def MT:=@List.length_map
def MU:=@PySem.Heap.get?_push_of_some
def MV:=@PySem.wpAny_pure
def MW:=@List.mem_cons_of_mem
def MX:=@List.mem_cons_self
def MY:=@if_neg
def MZ:=@Bool.false_ne_true
def Ma:=@if_pos
def Mb:=@Bool.and_eq_true
def Mc:=@Nat.le_refl
def Md:=@List.mem_map
def Me:=@List.size_toArray
def Mf:=@List.getD_eq_getElem?_getD
def Mg:=@PySem.Heap.get?_push_size
def Mh:=@List.getElem?_eq_some_iff
def Mi:=@PySem.Heap.lt_size
def Mj:=@List.length_append
def Mk:=@List.getElem?_eq_getElem
def Ml:=@List.mem_cons
def Mm:=@List.map_cons
def Mn:=@List.all_eq_true
def Mp:=@List.getElem?_map
def Mq:=@List.length_cons
def Mr:=@List.map_append
def Ms:=@Nat.ne_of_lt
def Mt:=@decide_eq_false
def Mu:=@List.mem_of_getElem?
def Mv:=@decide_eq_true
def Mw:=@PySem.Heap.get?_update_other
def Mx:=@Option.some.inj
def My:=@List.mem_singleton
def Mz:=@LawfulBEq.eq_of_beq
def M0:=@Array.length_toList
def M3:=@PySem.Heap.get?_update_self
def M4:=@List.map_map
def M5:=@Option.bind_some
def M6:=@Nat.zero_le
def M7:=@List.mem_append
def M8:=@Nat.le_trans
def M9:=@List.nodup_cons
def NA:=@of_decide_eq_true
def NC:=@PySem.wpAny_newObj_type
def ND:=@List.mem_range
def NE:=@PySem.wpAny_call_entry
def NG:=@congrArg
def NH:=@Nat.lt_of_lt_of_le
def NI:=@PySem.mem_of_lookup
def NJ:=@List.not_mem_nil
def NK:=@PySem.Obj.data_mapFields
def NL:=@List.mem_filter
def NM:=@List.length_filter_le
def NO:=@List.map_congr_left
def NP:=@List.append_nil
def NQ:=@List.getElem?_set_ne
def NR:=@PySem.sizeLine_eq
def NS:=@List.lookup_cons
def NT:=@List.length_range
def NU:=@Bool.eq_iff_iff
def NV:=@PySem.wpAny_holding
def NW:=@PyProof.Rows.slot_tuple_getitem
def NX:=@PyProof.Rows.callWith_type1
def NY:=@List.mem_append_right
def NZ:=@List.contains_iff_mem
def Na:=@List.getElem?_range
def Nb:=@PySem.wpAny_callSpecial?_slot
def Nc:=@decide_eq_true_eq
def Nd:=@Ne.symm
def Nf:=@PySem.Around.under_plainId
def Ng:=@List.getElem?_eq_none
def Nh:=@Array.getElem?_toList
def Ni:=@Nat.ne_of_gt
def Nj:=@PySem.Obj.isFreed_of_fields
def Nk:=@List.nodup_append
def Nl:=@PySem.codeAny_builtin
def Nm:=@List.getElem?_set_self
def No:=@PySem.wpAny_mono
def Np:=@Nat.lt_succ_of_lt
def Nq:=@Int.toNat_natCast
def Nr:=@Array.getD_eq_getD_getElem?
def Nt:=@PySem.wpAny_field
def Nu:=@PySem.wpAny_setField
def Nv:=@PySem.wpAny_of_eq
def Nw:=@Classical.byContradiction
def Nx:=@beq_iff_eq
def Ny:=@List.append_assoc
def Nz:=@List.find?_cons
def N0:=@Bool.or_eq_true
def N1:=@PySem.wpAny_truthy_bool
def N2:=@PySem.builtinLookup_eq_fast
def N6:=@List.mem_append_left
def N7:=@List.filter_cons
def OA:=@PySem.PassesOwn.never
def OB:=@Bool.eq_false_iff
def OC:=@beq_eq_false_iff_ne
def OE:=@List.length_set
def OF:=@PySem.Heap.SameBut.update
def OG:=@List.take_length
def OH:=@List.pairwise_cons
def OI:=@List.getElem_mem
def OJ:=@PySem.wpAny_loadPart'
def OK:=@Nat.lt_irrefl
def OL:=@List.pairwise_append
def OM:=@List.getElem?_cons_succ
def ON:=@Bool.not_eq_true'
def OO:=@List.foldl_cons
def OP:=@PySem.Heap.size_push
def OQ:=@List.replicate_succ
def OR:=@List.length_reverse
def OS:=@List.map_nil
def OT:=@PySem.wpAny_specialOf
def OU:=@List.length_take
def OV:=@or_false
def OX:=@List.lookup_append
def OY:=@List.filter_append
def OZ:=@Bool.false_eq_true
def Oa:=@List.getElem?_zipWith
def Ob:=@PySem.wpAny_attempt
def Oc:=@List.getElem?_append_left
def Od:=@List.drop_eq_getElem_cons
def Oe:=@List.range_succ
def Of:=@List.length_nil
def Og:=@List.take_add_one
def Oh:=@List.pairwise_map
def Oi:=@Option.isSome_iff_exists
def Oj:=@PySem.typeLookup_type
def Ol:=@PySem.W.kia_one
def Om:=@if_false
def On:=@PySem.boot_len
def Oo:=@PySem.plainId_quiet
def Op:=@Nat.lt_trans
def Oq:=@Nat.lt_or_ge
def Os:=@Nat.le_of_lt
def Ot:=@List.contains_cons
def Ou:=@PySem.wpAny_isInstance
def Ov:=@PySem.wpAny_typeNameOfWhole_keyiter
def Ow:=@List.getElem?_set
def Ox:=@List.foldl_append
def Oy:=@List.flatten_cons
def Oz:=@List.ext_getElem?
def O0:=@PySem.wpAny_typeOf
def O3:=@PySem.wpAny_passesOwn
def O4:=@Nat.le_succ
def O5:=@List.getElem?_append_right
def O6:=@Array.getElem?_eq_some_iff
def O7:=@Nat.zero_add
def O8:=@List.length_drop
def O9:=@Int.zero_add
def PB:=@Bool.not_eq_true
def PC:=@PySem.wpAny_pyIter_slot
def PD:=@PySem.wpAny_dictEntries
def PF:=@PySem.Obj.cls_mapFields
def PH:=@Array.getElem?_eq_getElem
def PJ:=@PyProof.Rows.F.plain_set_update_loop
def PK:=@List.length_zipWith
def PL:=@PySem.isSubtype_type
def PM:=@List.all_cons
def PN:=@if_true
def PP:=@Int.emod_nonneg
def PQ:=@PySem.wpAny_askSetting
def PR:=@Int.emod_lt_of_pos
def PU:=@PySem.wpAny_typeNameOf_keyiter
def PX:=@List.reverse_cons
def PY:=@Array.getElem?_eq_none
def PZ:=@PyProof.Rows.mirror_perm
def Pa:=@PySem.wpAny_Call_Name_kw
def Pb:=@PySem.wpAny_getItem_str_slice
def Pc:=@Bool.beq_eq_decide_eq
def Pd:=@not_or
def Pe:=@List.any_cons
def Pf:=@PySem.wpAny_setState_of
def Pg:=@PySem.codeAny_mono
def Ph:=@PySem.Calls.callWith_builtin
def Pi:=@List.mem_of_mem_drop
def Pj:=@PyProof.Rows.boot_isinstance
def Pk:=@Array.Perm.refl
def Pm:=@PySem.wpAny_rule
def Pn:=@Nat.min_self
def Po:=@PySem.wpAny_newList
def Pp:=@PySem.Paired.length
def Pq:=@Nat.lt_of_le_of_lt
def Pr:=@List.zip_cons_cons
def Ps:=@List.map_singleton
def Pt:=@Bool.false_and
def Pu:=@PySem.wpAny_updateSeq
def Px:=@PySem.wpAny_execs_nil
def Py:=@List.filter_congr
def Pz:=@PySem.F.args_tuple_add_2
def P0:=@List.Perm.eq_of_pairwise
def P2:=@PySem.wpAny_pyIter_tuple
def P4:=@PySem.Calls.call_function_entry
def P5:=@PySem.wpAny_pyIter_list
def P6:=@PySem.wpAny_pyIter_enum
namespace L2
open PySem
def cX(s:Stmt):Arguments:=match s with
 | .FunctionDef _ a _ _ _ _ _ _ _ _=>a|_=>{posonlyargs:=[],args:=[],vararg:=none,kwonlyargs:=[],kw_defaults:=[],kwarg:=none,defaults:=[]}
def aa(s:Stmt):List Stmt:=match s with
 | .FunctionDef _ _ b _ _ _ _ _ _ _=>b|_=>[]
def aJ(s:Stmt):Scope:=match s with
 | .FunctionDef _ _ _ _ _ _ a _ _ _=>a|_=>{kind:=.function,names:=[],isGenerator:=false,isCoroutine:=false}
end L2
namespace Law
open PySem
def fI(i:Nat):Stmt:=PySem.Challenge.pw_unstruck_k54_order_refused.main.body.getD i (.Pass ⟨0,0,0,0⟩)
abbrev s3:Stmt:=fI 2
abbrev s109:Stmt:=fI 3
abbrev s24:Stmt:=fI 4
abbrev s25:Stmt:=fI 5
abbrev s26:Stmt:=fI 6
abbrev s46:Stmt:=fI 8
abbrev s47:Stmt:=fI 9
abbrev s110:Stmt:=fI 17
abbrev s111:Stmt:=fI 18
abbrev s163:Stmt:=fI 20
abbrev s164:Stmt:=fI 21
abbrev s165:Stmt:=fI 22
abbrev s166:Stmt:=fI 23
abbrev rF:Stmt:=fI 24
abbrev s168:Stmt:=fI 25
abbrev um:Stmt:=fI 26
abbrev s173:Stmt:=fI 27
abbrev s174:Stmt:=fI 28
abbrev s175:Stmt:=fI 29
abbrev ul:Stmt:=fI 30
abbrev s4:Stmt:=fI 32
abbrev s5:Stmt:=fI 33
abbrev s20:Stmt:=fI 34
abbrev s62:Stmt:=fI 35
abbrev s66:Stmt:=fI 36
abbrev s8:Stmt:=fI 37
abbrev s9:Stmt:=fI 38
abbrev s10:Stmt:=fI 39
abbrev s170:Stmt:=fI 40
abbrev s64:Stmt:=fI 41
abbrev Ag:Stmt:=fI 42
abbrev Gy:Stmt:=fI 43
abbrev Gx:Stmt:=fI 44
abbrev s206:Stmt:=fI 45
abbrev s207:Stmt:=fI 46
abbrev Dm:Stmt:=fI 47
structure FI(K:W.Frag)(nm:Str)(st:Stmt)(f:Addr)(oc kV doc pm cd ct:Value)(od an:Option Addr)(sl:Array (Option Value)):Prop where
 a:W.nsIn K mainGlobals nm=some (some (.ref f))
 l:K.lookup f=some ⟨oc,od,.func (W.fnOf nm nm (L2.cX st) (L2.aa st) (L2.aJ st) .none kV doc pm an cd ct),sl⟩
 c:W.codeIn K cd nm=true
 k:W.keepIn K (.ref f)=true
def FX(K:W.Frag)(b:Str)(c:Stmt):Prop:=∃f e i a h l ct d g j,FI K b c f e i a h l ct d g j
structure CX(K:W.Frag)(g0 g1 g2 g3 g4:Addr)(cd0 cd1 cd2 cd3 cd4:ClassData):Prop where
 y0:W.nsIn K mainGlobals "NoPlacing"=some (some (.ref g0))
 yc0:W.clsIn K g0=some cd0
 yt0:W.typeIn K (.ref g0)=some (.type "type")
 y1:W.nsIn K mainGlobals "BoardError"=some (some (.ref g1))
 yc1:W.clsIn K g1=some cd1
 yt1:W.typeIn K (.ref g1)=some (.type "type")
 y2:W.nsIn K mainGlobals "NoBoard"=some (some (.ref g2))
 yc2:W.clsIn K g2=some cd2
 yt2:W.typeIn K (.ref g2)=some (.type "type")
 y3:W.nsIn K mainGlobals "NoStair"=some (some (.ref g3))
 yc3:W.clsIn K g3=some cd3
 yt3:W.typeIn K (.ref g3)=some (.type "type")
 y4:W.nsIn K mainGlobals "TooGreat"=some (some (.ref g4))
 yc4:W.clsIn K g4=some cd4
 yt4:W.typeIn K (.ref g4)=some (.type "type")
 x0:W.findIn K (.ref g0) "__getattribute__"=some (some (.builtin "BaseException.__getattribute__"))
 x1:W.findIn K (.ref g0) "__getattr__"=some none
 x2:W.findIn K (.ref g0) "__class__"=some (some (.builtin "object.__class__"))
 x3:W.specialIn K (.builtin "object.__class__") "__get__"=some (some (.builtin "getset_descriptor.__get__"))
 x4:W.takesIn K (.builtin "object.__class__")=some true
 x5:W.mroIn K g0 (.type "object")=some true
 x6:W.mroIn K g0 (.type "BaseException")=some true
 x7:W.subIn K (.ref g0) (.ref g0)=some true
 x8:W.subIn K (.ref g0) (.ref g1)=some true
 x9:W.subIn K (.ref g1) (.type "BaseException")=some true
 x10:W.subIn K (.ref g0) (.type "ValueError")=some true
 x11:W.subIn K (.ref g0) (.ref g2)=some false
 x12:W.subIn K (.ref g0) (.ref g3)=some false
 x13:W.subIn K (.ref g0) (.ref g4)=some false
 x14:W.excIn K g0 [.type "ValueError",.type "Exception",.type "BaseException",.type "object"] "ValueError.__new__"=true
 x15:g0≠g2
 x16:g0≠g3
 x17:g0≠g4
structure L9(K:W.Frag):Prop where
 a0:FX K "cells_of" s3
 a1:FX K "columns_in" s109
 a2:FX K "is_number" s24
 a3:FX K "is_cell" s25
 a4:FX K "is_placing" s26
 a5:FX K "bits_of" s46
 a6:FX K "with_line" s47
 a7:FX K "takes_column" s110
 a8:FX K "holders_of" s111
 a9:FX K "tails_of" s163
 a10:FX K "row_behind" s164
 a11:FX K "columns_taken" s165
 a12:FX K "number_beginning" s166
 a13:FX K "placing_at" rF
 a14:FX K "start_at" s168
 a15:FX K "number_of" um
 a16:FX K "free_columns" s173
 a17:FX K "goes_on" s174
 a18:FX K "first_behind" s175
 a19:FX K "next_placing" ul
 a20:FX K "_law_cell" s4
 a21:FX K "_law_mixed" s5
 a22:FX K "_law_deep" s20
 a23:FX K "_law_board" s62
 a24:FX K "_law_cells" s66
 a25:FX K "_law_whole" s8
 a26:FX K "_law_same" s9
 a27:FX K "_law_all_same" s10
 a28:FX K "_law_placing" s170
 a29:FX K "_law_row" s64
 a30:FX K "_law_kinds" Ag
 a31:FX K "_law_at_refused" Gy
 a32:FX K "_law_refused" Gx
 a33:FX K "_law_struck_too" s206
 a34:FX K "_law_spoiled" s207
 a35:FX K "law" Dm
 z0:W.nsIn K mainGlobals "len"=some none
 z1:W.nsIn K mainGlobals "int"=some none
 z2:W.nsIn K mainGlobals "list"=some none
 z3:W.nsIn K mainGlobals "tuple"=some none
 z4:W.nsIn K mainGlobals "all"=some none
 z5:W.nsIn K mainGlobals "isinstance"=some none
 z6:W.nsIn K mainGlobals "str"=some none
 z7:W.nsIn K mainGlobals "bool"=some none
 z8:W.nsIn K mainGlobals "range"=some none
 z9:W.nsIn K mainGlobals "zip"=some none
 z10:W.nsIn K mainGlobals "enumerate"=some none
 z11:W.nsIn K mainGlobals "sorted"=some none
 z12:W.nsIn K mainGlobals "set"=some none
 z13:W.nsIn K mainGlobals "sum"=some none
 z14:W.nsIn K mainGlobals "reversed"=some none
 z15:W.nsIn K mainGlobals "dict"=some none
 z16:W.nsIn K mainGlobals "ValueError"=some none
 v0:∃tk,W.nsIn K mainGlobals "CELL"=some (some (.str "x" tk))
 cx:∃g0 g1 g2 g3 g4 cd0 cd1 cd2 cd3 cd4,CX K g0 g1 g2 g3 g4 cd0 cd1 cd2 cd3 cd4
end Law
section
open PySem PySem.W PyProof.Rows
def LH.vw:Program:={PySem.Challenge.pw_unstruck_k54_order_refused with main:={PySem.Challenge.pw_unstruck_k54_order_refused.main with body:=((PySem.Challenge.pw_unstruck_k54_order_refused.main.body.drop 1).take 6)++((PySem.Challenge.pw_unstruck_k54_order_refused.main.body.drop 8).take 2)++((PySem.Challenge.pw_unstruck_k54_order_refused.main.body.drop 11).take 5)++((PySem.Challenge.pw_unstruck_k54_order_refused.main.body.drop 17).take 2)++((PySem.Challenge.pw_unstruck_k54_order_refused.main.body.drop 20).take 11)++((PySem.Challenge.pw_unstruck_k54_order_refused.main.body.drop 32).take 16)}}
set_option tactic.hygienic false
theorem LH.two{A B C:Type}{o:Option A}{f:A->B}{g:A->C}{a:B}{b:C}(h:o.map f=some a)(k:o.map g=some b):o.map (λs=>(f s,g s))=some (a,b):=by
 cases o with
 |none=>cases h|some x=>cases h;cases k;rfl
abbrev LH.xt(s:Shared):Bool:=xlAt LH.vw [] s&&recOk [] s
set_option tactic.hygienic true
theorem LH.h1(w:World):(openEnds treeTable PySem.Challenge.pw_unstruck_k54_order_refused w 9999).map (fun s=>openSeen LH.vw ["NoStair"] (importedModules PySem.Challenge.pw_unstruck_k54_order_refused.main.body) LH.xt true s)=some (openGood LH.vw ["NoStair"]):=by kernel_rfl
set_option maxRecDepth 100000 in
set_option maxHeartbeats 0 in
theorem LH.ws:OpenLaw.wellSaid PySem.Challenge.rw_unstruck_k54_order_refused=true:=(congrFun Fast.te9446332074065402090 _).trans (by kernel_rfl)
local macro_rules | `(tactic| o_head $H) => do
 let hw := Lean.mkIdent `hw
 let hc := Lean.mkIdent `hc
 `(tactic| (refine holds_open (q := LH.vw) (loose := ["NoStair"]) (Xt := LH.xt) (XP := XL LH.vw []) (Yf := Hook.obs $H) (Ya := Hook.val $H) (YP := Hook.says $H) (N := 9999) (fun w => LH.two (LH.h1 w) (by kernel_rfl)) (Hook.of $H) (Hook.keeps $H) (fun s e => xl_of s (Bool.and_eq_true_iff.mp e).1) XL.keeps rfl rfl rfl (fun s e => recFacts_of (Bool.and_eq_true_iff.mp e).2) rfl (by first | assumption | decide +kernel) (by decide +kernel) ⟨rfl, rfl, rfl, rfl, rfl, by decide +kernel⟩ ?$hw ?$hc))
set_option maxRecDepth 100000 in
set_option maxHeartbeats 0 in
theorem LH.head(h:∀(K:Params->Frag) (YP:World->Heap->Prop) (d:DefRec),d.name="law"->d.params.defaults=[]->(∀(w:World) (h:Heap),YP w h->(K w.params).In h)->(∀w:World,Law.L9 (K w.params))->WalkO LH.vw ["NoStair"] (XL LH.vw []) YP PySem.Challenge.rw_unstruck_k54_order_refused.row.toRowW d [] fun f vs=>PySem.call f vs):PySem.Challenge.rw_unstruck_k54_order_refused.Holds:=by
 w_on;refine holds_law LH.ws fun said=> ?_;k_head;(case hw=>w_witness2)
 k_fill
 refine h _ _ _ rfl rfl (λw h Y=>W.kIn_of Y) λw=> ?_;constructor;all_goals first|exact⟨_,_,_,_,_,_,_,_,_,_,by k_is,by k_is,by k_is,by k_is⟩|k_is|exact⟨_,by k_is⟩|exact⟨_,_,_,_,_,_,_,_,_,_,by k_is,by k_is,by k_is,by k_is,by k_is,by k_is,by k_is,by k_is,by k_is,by k_is,by k_is,by k_is,by k_is,by k_is,by k_is,by k_is,by k_is,by k_is,by k_is,by k_is,by k_is,by k_is,by k_is,by k_is,by k_is,by k_is,by k_is,by k_is,by k_is,by first|k_exc|kernel_rfl,by decide,by decide,by decide⟩
end
namespace L2
open PySem PySem.Spec PyProof.Rows
abbrev ag:=Sum Int Str
def nz:ag->Value->Bool
 | .inl k,v=>Value.isInt k v| .inr x,v=>Value.isStrOf x v
def keyH(w:World):ag->Int
 | .inl k=>hashInt k| .inr x=>hashStr w x
set_option tactic.hygienic false
theorem ax:∀{k:ag}{v:Value},nz k v=true->(∃i t,k=Sum.inl i/\v=Value.int i t)\/(∃x t,k=Sum.inr x/\v=Value.str x t)
 | .inl i,v,h=>by obtain⟨t,e⟩:=Value.isInt_shape h;exact .inl ⟨i,t,rfl,e⟩
 | .inr x,v,h=>by obtain⟨t,e⟩:=Value.isStrOf_shape h;exact .inr ⟨x,t,rfl,e⟩
theorem yx(i:Int)(t:Tok):nz (.inl i) (.int i t)=true:=by simp[nz,Value.isInt]
theorem yw(x:Str)(t:Tok):nz (.inr x) (.str x t)=true:=by simp[nz,Value.isStrOf]
theorem IZ(a b:Int):decide ((Sum.inl a:ag)=Sum.inl b)=(a==b):=by
 by_cases e:a=b;subst e;simp
 .have h:¬(Sum.inl a:ag)=Sum.inl b:=λq=>e (Sum.inl.inj q)
  rw[Mt h];exact(OC.mpr e).symm
theorem IV(a b:Str):decide ((Sum.inr a:ag)=Sum.inr b)=decide (a=b):=by
 by_cases e:a=b;simp
 .have h:¬(Sum.inr a:ag)=Sum.inr b:=λq=>e (Sum.inr.inj q)
  rw[Mt h,Mt e]
theorem IY(a:Int)(b:Str):decide ((Sum.inl a:ag)=Sum.inr b)=false:=Mt (λq=>nomatch q)
theorem IW(a:Str)(b:Int):decide ((Sum.inr a:ag)=Sum.inl b)=false:=Mt (λq=>nomatch q)
def aW(c:Program)(w:World):PySem.KeyKind c w ag where
 is:=nz
 hash:=keyH w
 inj:=λv a b ha hb=>by
  rcases ax ha with⟨i,t,rfl,rfl⟩|⟨x,t,rfl,rfl⟩
  .rcases ax hb with⟨j,u,rfl,e⟩|⟨y,u,rfl,e⟩
   .injection e with e1 _;rw[e1]
   .exact nomatch e
  .rcases ax hb with⟨j,u,rfl,e⟩|⟨y,u,rfl,e⟩
   .exact nomatch e
   .injection e with e1 _;rw[e1]
 byValue:=λk v h=>by
  rcases ax h with⟨i,t,rfl,rfl⟩|⟨x,t,rfl,rfl⟩<;>rfl
 pyHash:=λhv h=>by
  rcases ax hv with⟨i,t,rfl,rfl⟩|⟨x,t,rfl,rfl⟩
  .exact wpAny_pyHash_int h
  .exact wpAny_pyHash_str h
 eqBool:=λhu hv h=>by
  rcases ax hu with⟨i,t,rfl,rfl⟩|⟨x,t,rfl,rfl⟩
  .rcases ax hv with⟨j,u,rfl,rfl⟩|⟨y,u,rfl,rfl⟩
   .rw[IZ]at h;exact wpAny_eqBool_int h
   .rw[IY]at h;exact SeqAt.EqAt.int_str i t y u _ _ _ _ h
  .rcases ax hv with⟨j,u,rfl,rfl⟩|⟨y,u,rfl,rfl⟩
   .rw[IW]at h;exact SeqAt.EqAt.str_int x t j u _ _ _ _ h
   .rw[IV]at h;exact wpAny_eqBool_str h
 «strs»:=λk x t v h=>by
  rcases ax h with⟨i,u,rfl,e⟩|⟨y,u,rfl,e⟩
  .exact nomatch e
  .injection e with e1 _
   subst e1;cases v<;>rfl
theorem sR(a:Program)(w:World)(i:Int)(t:Tok):(aW a w).is (.inl i) (.int i t)=true:=yx i t
theorem sQ(a:Program)(w:World)(x:Str)(t:Tok):(aW a w).is (.inr x) (.str x t)=true:=yw x t
inductive V where
 | non|bl (b:Bool)|int (i:Int)|str (x:Str)|byt (b:Array UInt8)|flt (b:UInt64)|ref (a:Addr)|ty (n:String)
 deriving DecidableEq
def RelV:V->Value->Prop
 | .non,u=>u=Value.none| .bl b,u=>u=Value.bool b| .int i,u=>∃t,u=Value.int i t| .str x,u=>∃t,u=Value.str x t| .byt b,u=>∃t,u=Value.bytes b t| .flt b,u=>∃t,u=Value.float b t| .ref a,u=>u=Value.ref a| .ty n,u=>u=Value.type n
abbrev aM:List V->List Value->Prop:=Paired RelV
theorem aM.length(r:aM b a):b.length=a.length:=Pp r
theorem aM.get:∀{b:List V}{a:List Value}{i:Nat}{x:V},aM b a->b[i]? =some x->∃u,a[i]? =some u/\RelV x u
 |_,_,_,_,.nil,e=>by simp at e|_,_,0,_,.cons r _,e=>by simp at e;subst e;exact⟨_,rfl,r⟩|_,_,i+1,x,.cons _ t,e=>by obtain⟨u,d,c⟩:=aM.get t (by simpa using e);exact⟨u,by simpa using d,c⟩
theorem aM.set{x:V}{u:Value}(r:RelV x u):∀{b:List V}{a:List Value}(i:Nat),aM b a->aM (b.set i x) (a.set i u)
 |_,_,_,.nil=>.nil|_,_,0,.cons _ t=>.cons r t|_,_,i+1,.cons q t=>.cons q (aM.set r i t)
theorem aM.append(h:aM d b)(k:aM a c):aM (d++a) (b++c):=by
 induction h with
 |nil=>exact k|cons r t e=>exact .cons r e
theorem aM.take:∀{b:List V}{a:List Value}(n:Nat),aM b a->aM (b.take n) (a.take n)
 |_,_,0,_=>.nil|_,_,_+1,.nil=>.nil|_,_,n+1,.cons r t=>.cons r (aM.take n t)
theorem aM.drop:∀{b:List V}{a:List Value}(n:Nat),aM b a->aM (b.drop n) (a.drop n)
 |_,_,0,r=>r|_,_,_+1,.nil=>.nil|_,_,n+1,.cons _ t=>aM.drop n t
def jr:Option V->Option Value->Prop
 |some v,some u=>RelV v u|none,none=>True|_,_=>False
def KV{a:Type}:List (a×V)->List (a×Value)->Prop:=Paired λ(p:a×V)(q:a×Value)=>p.1=q.1/\RelV p.2 q.2
def kV:ag->V
 | .inl i=>.int i| .inr x=>.str x
inductive HO where
 | lst (xs:List V)
 | tup (xs:List V)
 | dK (kvs:List (ag×V))|dT (kvs:List (List ag×V))
 | set (S:Int->Bool) (n:Nat)
 | ins (C dx:Addr) (fs:List (Str×V))
 | own (x:Addr)
 | xd (fs:List (Str×V))
 | met (f x:Addr)
 | rng (lo hi:Int)
 | frz (o:Obj) (u:HO)
 | tbl (ps:Array Value)
 | ext (φ:Heap->Prop)
abbrev Hp:=Addr->Option HO
def upd(H:Hp)(a:Addr)(o:HO):Hp:=λb=>if b=a then some o else H b
theorem aB{o:HO}:upd H a o a=some o:=by unfold upd;rw[Ma rfl]
theorem aA{o:HO}(h:b≠a):upd H a o b=H b:=by unfold upd;rw[MY h]
theorem DR{o:HO}:upd (upd H a o) a u=upd H a u:=by funext b;unfold upd;split<;>rfl
theorem BO{H:Hp}{o:HO}(h:H a=some o)(c :H b=some u)(d:o≠u):a≠b:=by intro e;subst e;rw[h]at c;exact d (Mx c)
theorem aE{H:Hp}{o:HO}(h:H a=some o)(c :H b=none):a≠b:=by intro e;subst e;rw[h]at c;cases c
def fg(h:Heap)(a:Addr)(b:Array Value):Prop:=∃o,h.get? a=some o/\o.cls=.type "tuple"/\∃n,o.data=.seq b n/\o.dict=none
theorem fg.tup{h:Heap}{a:Addr}{b:Array Value}(x:fg h a b):IsTup h a b:=let⟨o,e,c,n,d,_⟩:=x;⟨o,e,c,n,d⟩
theorem fg.new(h:Heap)(a:Array Value):fg (h.push {cls:=.type "tuple",data:=.seq a}) h.objs.size a:=⟨_,Mg _ rfl,rfl,_,rfl,rfl⟩
section
variable(P:Program)(w:World)
def ah(H:Hp)(h:Heap)(a:Addr):HO->Prop
 | .lst d=>d.length<=sizeLine/\∃(c:List Value)(n:Nat),aM d c/\h.get? a=some {cls:=.type "list",data:=.seq c.toArray n}| .tup d=>d.length<=sizeLine/\∃c:List Value,aM d c/\fg h a c.toArray| .dK b=>b.length<=sizeLine/\(a==sysModules)=false/\∃s,KV b s/\h.DictOf (aW P w) a s| .dT b=>b.length<=sizeLine/\(a==sysModules)=false/\∃d:List (List ag×Addr×Value),Paired (λ(p:List ag×V) (q:List ag×Addr×Value)=>p.1=q.1/\H q.2.1=some (.tup (p.1.map kV))/\RelV p.2 q.2.2) b d /\ ∃o r A,h.get? a=some o/\o.ExactDict/\o.data=.dict r A/\r.toList=d.map (entryOfKey (tupleKind (aW P w)))/\(d.map (·.1)).Nodup| .set S n=>h.SetOf (intKind P w) a S n| .ins C i g=>H i=some (.own a)/\g.length<=1000/\i≠a/\h.get? a=some (W.instObj C i) /\ ∃e,h.Ns1 i e/\(∀f,jr (g.lookup f) (e f))/\PySem.Within e (g.map (·.1))| .own _=>∃o,h.get? a=some o| .xd g=>∃e,h.Ns1 a e/\∀f,jr (g.lookup f) (e f)| .rng z D=>∃t u v,h.get? a=some {cls:=.type "range",data:=.fields #[.int z t,.int D u,.int 1 v]}| .frz o u=>h.get? a=some o/\ah H h a u| .tbl y=>h.get? a=some {cls:=.none,data:=.fields y}| .met f x=>h.get? a=some (W.methodObj (.ref f) (.ref x))| .ext j=>j h/\(∃o,h.get? a=some o)/\∀m l:Heap,j m->(∀o,m.get? a=some o->l.get? a=some o)->j l
def eI(H:Hp)(h:Heap):Prop:=∀a o,H a=some o->ah P w H h a o
end
section
variable{P:Program}{w:World}{H H' :Hp}{h h' :Heap}{a:Addr}{o:HO}
theorem ah.lt(x:ah P w H h a o):a<h.objs.size:=by
 cases o with
 |lst c=>obtain⟨_,_,_,_,e⟩:=x;exact Mi e
 |tup c=>obtain⟨_,_,_,p⟩:=x;exact p.tup.lt
 |dK b=>obtain⟨_,_,_,_,o,_,_,e,_⟩:=x;exact Mi e
 |dT b=>obtain⟨_,_,_,_,o,_,_,e,_⟩:=x;exact Mi e
 |set S n=>obtain⟨o,_,_,_,e,_⟩:=x;exact Mi e
 |ins C g d=>obtain⟨_,_,_,e,_⟩:=x;exact Mi e
 |own y=>obtain⟨_,e⟩:=x;exact Mi e
 |xd d=>obtain⟨_,⟨_,_,_,e,_⟩,_⟩:=x;exact Mi e
 |rng m q=>obtain⟨_,_,_,e⟩:=x;exact Mi e
 |frz l u=>obtain⟨e,_⟩:=x;exact Mi e
 |tbl j=>exact Mi (show h.get? a=some _ from x)|met f y=>exact Mi (show h.get? a=some _ from x)|ext i=>obtain⟨_,⟨_,e⟩,_⟩:=x;exact Mi e
theorem Paired.mapP{g e:Type}{F G:g->e->Prop}{c:List g}{d:List e}(h:Paired F c d)(f:∀a b,F a b->G a b):Paired G c d:=by
 induction h with
 |nil=>exact .nil|cons r t i=>exact .cons (f _ _ r) i
theorem Paired.imp'{g e:Type}{F G:g->e->Prop}(f:∀a b,F a b->G a b){c:List g}{d:List e}(r:Paired F c d):Paired G c d:=Paired.mapP r f
theorem ah.stay(x:ah P w H h a o)(k:∀b u,(b=a\/H b=some (.own a))->h.get? b=some u->h'.get? b=some u)
  (R:∀b,H b=some (.own a)->H' b=some (.own a)) (J:∀b m,H b=some (.tup m)->H' b=some (.tup m)):ah P w H' h' a o:=by
 induction o with
 |lst m=>obtain⟨z,l,n,r,e⟩:=x;exact⟨z,l,n,r,k _ _ (.inl rfl) e⟩
 |tup m=>obtain⟨z,l,r,g,e,c⟩:=x;exact⟨z,l,r,g,k _ _ (.inl rfl) e,c⟩
 |dK s=>obtain⟨z,y,N,r,g,i,j,e,c⟩:=x;exact⟨z,y,N,r,g,i,j,k _ _ (.inl rfl) e,c⟩
 |dT s =>obtain⟨z,y,m,r,g,i,j,e,c⟩:=x;exact⟨z,y,m,Paired.mapP r λp q z=>⟨z.1,J _ _ z.2.1,z.2.2⟩,g,i,j,k _ _ (.inl rfl) e,c⟩
 |set S n=>obtain⟨g,i,j,t,e,c⟩:=x;exact⟨g,i,j,t,k _ _ (.inl rfl) e,c⟩
 |ins C T L =>obtain⟨d,z,M,e,D,⟨A,i,j,O,c⟩,r⟩:=x;exact⟨R _ d,z,M,k _ _ (.inl rfl) e,D,⟨A,i,j,k _ _ (.inr d) O,c⟩,r⟩
 |own y=>obtain⟨g,e⟩:=x;exact⟨g,k _ _ (.inl rfl) e⟩
 |xd L=>obtain⟨D,⟨A,i,j,e,c⟩,r⟩:=x;exact⟨D,⟨A,i,j,k _ _ (.inl rfl) e,c⟩,r⟩
 |rng X Y=>obtain⟨t,u,v,e⟩:=x;exact⟨t,u,v,k _ _ (.inl rfl) e⟩
 |frz g u Q=>obtain⟨e,q⟩:=x;exact⟨k _ _ (.inl rfl) e,Q q⟩
 |tbl I =>have e:=x;exact k a _ (.inl rfl) e
 |met f y =>have e:=x;exact k a _ (.inl rfl) e
 |ext U=>obtain⟨p,⟨o,e⟩,E⟩:=x;exact⟨E _ _ p λo q=>k _ _ (.inl rfl) q,⟨o,k _ _ (.inl rfl) e⟩,E⟩
theorem eI.lt(x:eI P w H h)(e:H a=some o):a<h.objs.size:=(x a o e).lt
theorem eI.fresh(x:eI P w H h)(e:h.objs.size<=a):H a=none:=by
 cases q:H a with
 |none=>rfl|some u=>exact absurd (NH (x.lt q) e) (OK _)
theorem eI.kept(x:eI P w H h)(k:∀b u,h.get? b=some u->h'.get? b=some u):eI P w H h' :=λa o e =>
 (x a o e).stay (λb u _ q=>k b u q) (λ_ q=>q) λ_ _ q=>q
theorem eI.laid(x:eI P w H h)(k:∀b u,h.get? b=some u->h'.get? b=some u)(i:h.objs.size<=a)(d:ah P w (upd H a o) h' a o):eI P w (upd H a o) h' :=λb u e=>by
 have f:=x.fresh i
 by_cases g:b=a;subst g;rw[aB]at e;cases e;exact d
 .rw[aA g]at e
  exact(x b u e).stay (λc v _ q=>k c v q) (λc q=>by rwa[aA (aE q f)]) λc xs q=>by rwa[aA (aE q f)]
end
def Rd(H:Hp)(a:Addr)(u:HO):Prop:=H a=some u\/∃o,H a=some (.frz o u)
theorem Rd.ok{P:Program}(r:Rd H a u)(x:eI P w H h):ah P w H h a u:=by
 rcases r with r|⟨o,r⟩
 .exact x a u r
 .obtain⟨_,q⟩:=x a _ r
  exact q
def MG:Option HO->Prop
 |some (.lst _)=>True|some (.dK _)=>True|some (.dT _)=>True|some (.set _ _)=>True|some (.ins _ _ _)=>True|some (.ext _)=>True|_=>False
section
variable{P:Program}{w:World}{H:Hp}{h h' :Heap}{x e:Addr}{o' :HO}
theorem eI.write(s:eI P w H h)(g:MG (H x))(p:e=x\/H e=some (.own x))(k:∀b u,b≠e->h.get? b=some u->h'.get? b=some u)(n:∃u,h'.get? e=some u)
  (m:ah P w (upd H x o') h' x o'):eI P w (upd H x o') h' :=λb u q=>by
 have d:∀c y,H c=some (.own y)->c≠x:=λc y r z=>by subst z;rwa[r]at g
 have f:∀c i,H c=some (.tup i)->c≠x:=λc i r z=>by subst z;rwa[r]at g
 by_cases j:b=x;subst j;rw[aB]at q;cases q;exact m
 .rw[aA j]at q
  by_cases a:b=e
  .have o :H b=some (.own x):=by
    rcases p with z|z
    .exact absurd (a.trans z) j
    .rwa[a]
   rw[q]at o;cases o;obtain⟨v,A⟩:=n;exact⟨v,by rwa[a]⟩
  .refine(s b u q).stay (λc v l r=>k c v ?_ r) (λc r=>by rwa[aA (d c b r)]) λc i r=>by rwa[aA (f c i r)]
   rcases l with rfl|l
   .exact a
   .rintro rfl
    rcases p with z|z
    .exact d c b l z
    .rw[l]at z;cases z;exact j rfl
end
structure Un(fs ex:List Addr)(H H' :Hp)(h h' :Heap):Prop where
 keep:∀b o,h.get? b=some o->H b=none->b∉fs->b∉ex->h'.get? b=some o
 slot:∀b o,h.get? b=some o->H b=none->b∈fs->b∉ex->∃sl,h'.get? b=some {o with slots:=sl}
 free:∀b o,h.get? b=some o->H b=none->b∉ex->H' b=none
 there:∀b o,h.get? b=some o->b∉ex->∃o',h'.get? b=some o'
 tups:∀b xs,H b=some (.tup xs)->H' b=some (.tup xs)
 frzs:∀b o u,H b=some (.frz o u)->H' b=some (.frz o u)
 tbls:∀b ps,H b=some (.tbl ps)->∃more,H' b=some (.tbl (ps++more))
section
variable{fs fs' ex ex' :List Addr}{H H1 H2:Hp}{h h1 h2 h' :Heap}{a x e:Addr}{o:HO}
theorem Un.any(u:Un fs ex H H1 h h1)(q:h.get? b=some c)(n:H b=none)(d:b∉ex):∃g,h1.get? b=some {c with slots:=g}:=by by_cases f:b∈fs;exact u.slot b c q n f d;exact⟨c.slots,u.keep b c q n f d⟩
theorem Un.kept(k:∀b u,h.get? b=some u->h'.get? b=some u):Un fs ex H H h h' := ⟨λb ob q _ _ _=>k b ob q,λb ob q _ _ _=>⟨ob.slots,k b ob q⟩,λ_ _ _ n _=>n,λb ob q _=>⟨ob,k b ob q⟩,λ_ _ q=>q,λ_ _ _ q=>q,λ_ ps q=>⟨#[],by rw[q];simp⟩⟩
theorem Un.refl:Un fs ex H H h h:=Un.kept λ_ _ q=>q
theorem Un.laid(k:∀b u,h.get? b=some u->h'.get? b=some u)(d:h.objs.size<=a)(c:H a=none):Un fs ex H (upd H a o) h h' where
 keep:=λb u q _ _ _=>k b u q
 slot:=λb u q _ _ _=>⟨u.slots,k b u q⟩
 free:=λb u q n _=>by rwa[aA (Ms (NH (Mi q) d))]
 there:=λb u q _=>⟨u,k b u q⟩
 tups:=λb xs q=>by rwa[aA (aE q c)]
 frzs:=λb u xs q=>by rwa[aA (aE q c)]
 tbls:=λb ps q=>⟨#[],by rw[aA (aE q c),q];simp⟩
theorem Un.write(d:MG (H x))(l:e=x\/H e=some (.own x))(k:∀b u,b≠e->h.get? b=some u->h'.get? b=some u)(f:∃u,h'.get? e=some u):Un fs ex H (upd H x o) h h' :=by
 have i:∀b,H b=none->b≠x:=λb n z=>by subst z;rwa[n]at d
 have j:∀b,H b=none->b≠e:=λb n z=>by
  subst z
  rcases l with r|r
  .exact i b n r
  .rw[n]at r;cases r
 have g:∀b u,H b=some u->¬MG (some u)->b≠x:=λb u q nm z=>by subst z;rw[q]at d;exact nm d
 refine⟨λb u q n _ _=>k b u (j b n) q,λb u q n _ _=>⟨u.slots,k b u (j b n) q⟩,λb u q n _=>by rwa[aA (i b n)],λb u q _=> ?_,λb xs q=>by rwa[aA (g b _ q λz=>z)],λb u xs q=>by rwa[aA (g b _ q λz=>z)],λb ps q=>⟨#[],by rw[aA (g b _ q λz=>z),q];simp⟩⟩
 by_cases c:b=e;subst c;exact f;exact⟨u,k b u c q⟩
end
def trk(h:Heap)(H:Hp):List Addr:=(List.range h.objs.size).filter λa=>(H a).isSome
def pe(h:Heap)(H:Hp):Heap:=W.hideAll h (trk h H)
theorem zC(h:Heap)(H:Hp):(pe h H).objs.size=h.objs.size:=W.hideAll_size _ _
theorem Bw{o:Obj}(e:h.get? b=some o)(n:H b=none):(pe h H).get? b=some o := W.hideAll_get _ e λhm=>by have q:=(NL.mp hm).2;rw[n]at q;simp at q
theorem EL{o:Obj}(e:(pe h H).get? b=some o):h.get? b=some o/\H b=none:=by
 have a :=W.of_hideAll (trk h H) e;refine⟨a,?_⟩;cases q:H b with
 |none=>rfl|some x =>have c:b∈trk h H:=NL.mpr ⟨ND.mpr (Mi a),by simp[q]⟩;have z:(pe h H).get? b=none:=W.hideAll_none (trk h H) c;rw[z]at e;cases e
def Fp(g h:Heap)(L:Addr):List (Addr×Obj):=(List.range h.objs.size).filterMap λa=>if a=L\/(g.get? a).isSome=true then none else(h.get? a).map λo=>(a,o)
def aP(g h:Heap)(L d:Addr):List (Addr×Obj):=(Fp g h L).filter λp=>decide (p.1≠d)
structure Mod(K:W.Frag)(mg:Str->Option Value)(base:Heap):Prop where
 kin:K.In base
 glob:base.Ns mainGlobals mg
 blt:∃mb,base.Ns builtinsNs mb/\∀x:Str,x≠"__name__"->mb x=bootBuiltins x
 nolimit:base.NoLimit
structure Cx where
 prog:Program
 w:World
 K:W.Frag
 mg:Str->Option Value
 base:Heap
 A:Around
 N:List Str
 s₀:Shared
 H₀:Hp
 env:Env
 outer:List Env
 stack:List Env
 ex:List Addr
 fn:Str->Bool
 calm:Bool
 pn:List (Addr×Obj)
 xe:Value->Shared->Prop
def uQ(l:List Env):List Addr:=l.filterMap (·.frame)
abbrev Cx.fs(X:Cx):List Addr:=uQ X.outer
def J9(a:Scope)(x:Str):Prop:=a.names.lookup x=some .local\/a.names.lookup x=some .cell\/a.names.lookup x=some .free
def Loc(a:Scope)(x:Str):Prop:=a.names.lookup x=some .local\/a.names.lookup x=some .cell
def Look(a:Env)(h:Heap)(m:Str->Option Value)(x:Str)(u:Value):Prop :=
 (a.kindOf x=some .local/\m x=some u)\/((a.kindOf x=some .cell\/a.kindOf x=some .free)/\∃c,a.cells.lookup x=some c/\h.IsCell c (some u))
structure Cx.Ok(X:Cx):Prop where
 mod:Mod X.K X.mg X.base
 kind:X.env.scope.kind=.function
 glob:X.env.globals=mainGlobals
 blt:X.env.builtins=builtinsNs
 above:X.s₀.heap.objs.size<=X.env.locals
 inj:∀x y c,X.env.cells.lookup x=some c->X.env.cells.lookup y=some c->x=y
 has:∀x,(X.env.kindOf x=some .cell\/X.env.kindOf x=some .free)->∃c,X.env.cells.lookup x=some c
 cab:∀x c,X.fn x=true->X.env.cells.lookup x=some c->X.s₀.heap.objs.size<=c
 hd:X.calm=true->X.A.handled=none
 frames:X.A.frames=some X.stack
 stk:X.stack=X.outer\/(X.stack=X.env::X.outer/\X.env.frame=some X.env.locals)
 exf:∀b∈X.ex,b≠X.env.locals/\∀x c,X.env.cells.lookup x=some c->c≠b
 bs:∀b o,X.base.get? b=some o->X.s₀.heap.get? b=some o/\X.H₀ b=none
 bsz:X.base.objs.size<=X.s₀.heap.objs.size
 noex:∀b o,X.base.get? b=some o->b∉X.ex
 exfs:∀b∈X.ex,b∉X.fs
 funs:X.s₀.heap.FunFrames X.base X.outer
 frf:∀b∈X.fs,X.H₀ b=none
structure Inv(X:Cx)(pins:List (Addr×Obj))(σ:List (Option V))(H:Hp)(s:Shared):Prop where
 ok:X.Ok
 os:s.os=X.s₀.os
 bare:AllBare s.gens
 base:Un X.fs X.ex X.H₀ H X.s₀.heap s.heap
 loc:∃m,s.heap.Ns X.env.locals m/\∀(i:Nat)(x:Str)(v:V),X.N[i]? =some x->σ[i]? =some (some v)->J9 X.env.scope x->∃u,RelV v u/\Look X.env s.heap m x u
 cell:∀x c,X.env.cells.lookup x=some c->∃v,s.heap.IsCell c v
 free:H X.env.locals=none
 freeC:∀x c,X.env.cells.lookup x=some c->H c=none
 pin:∀p∈X.pn++pins,s.heap.get? p.1=some p.2/\H p.1=none/\p.1≠X.env.locals/\p.1∉X.fs/\∀v,p.2.data≠.cell v
 hok:eI X.prog X.w H s.heap
 len:σ.length=X.N.length
section
variable{X:Cx}{pins:List (Addr×Obj)}{σ:List (Option V)}{H H' :Hp}{s:Shared}{h' :Heap}
theorem Cx.Ok.nofr(a:X.Ok){o:Obj}(e:X.base.get? b=some o):b∉X.fs:=λhb=>by have:=(a.funs.mem hb).1;rw[e]at this;cases this
theorem Inv.bs(I:Inv X pins σ H s):∀b o,X.base.get? b=some o->s.heap.get? b=some o/\H b=none:=λb o e =>
 ⟨I.base.keep b o (I.ok.bs b o e).1 (I.ok.bs b o e).2 (I.ok.nofr e) (I.ok.noex b o e),I.base.free b o (I.ok.bs b o e).1 (I.ok.bs b o e).2 (I.ok.noex b o e)⟩
theorem Inv.bk(I:Inv X pins σ H s):∀b o,X.base.get? b=some o->s.heap.get? b=some o:=λb o e=>(I.bs b o e).1
theorem Inv.mod(I:Inv X pins σ H s):Mod X.K X.mg X.base:=I.ok.mod
theorem Inv.kIn(I:Inv X pins σ H s):X.K.In s.heap:=I.ok.mod.kin.keeps I.bk
theorem Inv.lt(I:Inv X pins σ H s):X.env.locals<s.heap.objs.size:=let⟨_,hn,_⟩:=I.loc;hn.lt
theorem Inv.sz(I:Inv X pins σ H s):X.s₀.heap.objs.size<=s.heap.objs.size:=M8 I.ok.above (Os I.lt)
theorem Inv.nofs(I:Inv X pins σ H s)(h:s.heap.objs.size<=a):a∉X.fs:=λhb=>by obtain⟨_,o,b,_⟩:=I.ok.funs.mem hb;exact absurd (NH (Mi b) (M8 I.sz h)) (OK _)
theorem Inv.cne(I:Inv X pins σ H s):∀x c,X.env.cells.lookup x=some c->c≠X.env.locals:=λx c e z=>by obtain⟨v,o,d,f⟩:=I.cell x c e;obtain⟨m,⟨g,i,h,a,b,_⟩,_⟩:=I.loc;rw[z,a]at d;cases d;rw[b]at f;cases f
theorem Inv.funs(I:Inv X pins σ H s):s.heap.FunFrames X.base X.outer:=by
 have d:∀l,(∀b∈uQ l,b∈X.fs)->X.s₀.heap.FunFrames X.base l->s.heap.FunFrames X.base l:=by
  intro l
  induction l with
  |nil=>intro _ _;trivial|cons j r p =>intro f i;obtain⟨q,⟨L,o,c,h,n,m⟩,g⟩:=i;have a:=f L (by unfold uQ;rw[List.filterMap_cons,c];exact MX);obtain⟨u,e⟩:=I.base.slot L o n (I.ok.frf L a) a λz=>I.ok.exfs L z a;exact⟨q,⟨L,_,c,h,e,m⟩,p (λb hb=>f b (by unfold uQ;rw[List.filterMap_cons,c];exact MW _ hb)) g⟩
 exact d X.outer (λ_ hb=>hb) I.ok.funs
theorem Inv.stack(I:Inv X pins σ H s):s.heap.FunFrames X.base X.stack:=by
 rcases I.ok.stk with e|⟨e,b⟩
 .rw[e];exact I.funs
 .rw[e]
  obtain⟨m,a,_⟩:=I.loc;refine .cons (by rw[I.ok.kind];decide) b a ?_ I.funs;exact Heap.get?_none_of_le (M8 I.ok.bsz I.ok.above)
theorem Inv.stkSub(I:Inv X pins σ H s):∀b∈uQ X.stack,b∈X.env.locals::X.fs:=λb hb=>by
 rcases I.ok.stk with e|⟨e,a⟩
 .rw[e]at hb;exact MW _ hb
 .rw[e]at hb
  unfold uQ at hb;rwa[List.filterMap_cons,a]at hb
theorem Inv.stkFree(I:Inv X pins σ H s):∀b∈uQ X.stack,H b=none:=λb hb=>by
 rcases Ml.mp (I.stkSub b hb)with e|hb
 .rw[e];exact I.free
 .obtain⟨_,o,a,_⟩:=I.ok.funs.mem hb
  exact I.base.free b o a (I.ok.frf b hb) λz=>I.ok.exfs b z hb
theorem Inv.step{g':Array GenState}{d':Drawn}{ch:List Addr}(I:Inv X pins σ H s)
  (f:∀b∈ch,(b∈X.ex\/X.s₀.heap.objs.size<=b)/\b≠X.env.locals/\(∀x c,X.env.cells.lookup x=some c->c≠b)/\∀p∈X.pn++pins,p.1≠b)
  (h:∀b o,b≠X.env.locals->b∉X.fs->b∉ch->s.heap.get? b=some o->H b=none->h'.get? b=some o)
  (D:∀b o,b≠X.env.locals->b∈X.fs->b∉ch->s.heap.get? b=some o->H b=none->∃W,h'.get? b=some {o with slots:=W}) (a:∀b o,b∉ch->s.heap.get? b=some o->H b=none->H' b=none)
  (E:∀b o,b∉ch->s.heap.get? b=some o->∃L,h'.get? b=some L)
  (O:∀b C,H b=some (.tup C)->H' b=some (.tup C)) (N:∀b o u,H b=some (.frz o u)->H' b=some (.frz o u)) (Q:∀b T,H b=some (.tbl T)->∃R,H' b=some (.tbl (T++R)))
  (ns:∀m,s.heap.Ns X.env.locals m->h'.Ns X.env.locals m) (Y:eI X.prog X.w H' h') (hg:AllBare g') :
  Inv X pins σ H' {s with heap:=h',gens:=g',drawn:=d',toks:=t'}:=by
 have M:∀b o,X.s₀.heap.get? b=some o->b≠X.env.locals:=λb o e=>Ms (NH (Mi e) I.ok.above);have A:∀b o,X.s₀.heap.get? b=some o->b∉X.ex->b∉ch:=λb o e hx hb=>by
  rcases(f b hb).1 with z|z
  .exact hx z
  .exact absurd (NH (Mi e) z) (OK _)
 have g:∀x c,X.env.cells.lookup x=some c->∀v,s.heap.IsCell c v->h'.IsCell c v:=λx c e v ⟨o,J,U⟩=>by
  have j:=λz=>(f c z).2.2.1 x c e rfl
  by_cases hc:c∈X.fs
  .obtain⟨W,q⟩:=D c o (I.cne x c e) hc j J (I.freeC x c e)
   exact⟨_,q,U⟩
  .exact⟨o,h c o (I.cne x c e) hc j J (I.freeC x c e),U⟩
 refine⟨I.ok,I.os,hg,⟨λb o e n hb hx=> ?_,λb o e n hb hx=> ?_,λb o e n hx=> ?_,λb o e hx=> ?_,λb C e=>O b C (I.base.tups b C e),λb o C e=>N b o C (I.base.frzs b o C e),λb T e=> ?_⟩,?_,λx c e=> ?_,?_,λx c e=> ?_,λp hp=> ?_,Y,I.len⟩
 .exact h b o (M b o e) hb (A b o e hx) (I.base.keep b o e n hb hx) (I.base.free b o e n hx)
 .obtain⟨W,y⟩:=I.base.slot b o e n hb hx
  obtain⟨Z,S⟩:=D b _ (M b o e) hb (A b o e hx) y (I.base.free b o e n hx);exact⟨Z,S⟩
 .obtain⟨L,y⟩:=I.base.there b o e hx
  exact a b L (A b o e hx) y (I.base.free b o e n hx)
 .obtain⟨L,y⟩:=I.base.there b o e hx
  exact E b L (A b o e hx) y
 .obtain⟨m1,y⟩:=I.base.tbls b T e
  obtain⟨m2,S⟩:=Q b _ y;exact⟨m1++m2,by rw[S,Array.append_assoc]⟩
 .obtain⟨m,hn,hl⟩:=I.loc
  refine⟨m,ns m hn,λi x v y S e3=> ?_⟩;obtain⟨u,r,l⟩:=hl i x v y S e3;refine⟨u,r,?_⟩
  rcases l with l|⟨k,c,e,z⟩
  .exact .inl l
  .exact .inr ⟨k,c,e,g x c e _ z⟩
 .obtain⟨v,z⟩:=I.cell x c e
  exact⟨v,g x c e v z⟩
 .obtain⟨m,⟨o,_,_,J,_⟩,_⟩:=I.loc
  exact a _ o (λz=>(f _ z).2.1 rfl) J I.free
 .obtain⟨v,o,J,U⟩:=I.cell x c e
  exact a c o (λz=>(f c z).2.2.1 x c e rfl) J (I.freeC x c e)
 .obtain⟨e,n,ne,nf,d⟩:=I.pin p hp
  have j:=λz=>(f p.1 z).2.2.2 p hp rfl;exact⟨h p.1 p.2 ne nf j e n,a p.1 p.2 j e n,ne,nf,d⟩
theorem Inv.un{t':Nat}(I:Inv X pins σ H s)(u:Un X.fs [] H H' s.heap h')(c:eI X.prog X.w H' h'):Inv X pins σ H' {s with heap:=h',toks:=t'}:=by obtain⟨m,⟨o,q,l,g,r⟩,_⟩:=id I.loc;obtain⟨p,h⟩:=u.any g I.free (by simp);exact I.step (ch:=[]) (λ_ z=>nomatch z) (λb o _ hb _ e n=>u.keep b o e n hb (by simp)) (λb o _ hb _ e n=>u.slot b o e n hb (by simp)) (λb o _ e n=>u.free b o e n (by simp)) (λb o _ e=>u.there b o e (by simp)) u.tups u.frzs u.tbls (λm' hm=>by obtain⟨j,d,f,a,i⟩:=hm;rw[g]at a;cases a;exact⟨_,d,f,h,i⟩) c I.bare
theorem Inv.call{g':Array GenState}{t':Nat}{d':Drawn}{ch:List Addr}(I:Inv X pins σ H s)(u:Un (uQ X.stack) ch H H' s.heap h')(h:eI X.prog X.w H' h')(q:AllBare g')
  (a:∀b∈ch,(b∈X.ex\/X.s₀.heap.objs.size<=b)/\b≠X.env.locals/\(∀x c,X.env.cells.lookup x=some c->c≠b)/\∀p∈X.pn++pins,p.1≠b) :
  Inv X pins σ H' {s with heap:=h',gens:=g',drawn:=d',toks:=t'}:=by
 obtain⟨m,⟨o,y,C,j,r⟩,_⟩:=id I.loc;obtain⟨A,f⟩:=u.any j I.free λz=>(a _ z).2.1 rfl;exact I.step a (λb o f hb hc e n=>u.keep b o e n (λz=>(Ml.mp (I.stkSub b z)).elim f hb) hc) (λb o _ _ hc e n=>u.any e n hc) (λb o hc e n=>u.free b o e n hc) (λb o hc e=>u.there b o e hc) u.tups u.frzs u.tbls (λm' hm=>by obtain⟨v,i,g,d,l⟩:=hm;rw[j]at d;cases d;exact⟨_,i,g,f,l⟩) h q
theorem Inv.turned{t':Nat}{it:Addr}(I:Inv X pins σ H s)(k:∀b o,b≠it->s.heap.get? b=some o->h'.get? b=some o)(h:H it=none)(d:it≠X.env.locals)
  (g:it∈X.ex\/X.s₀.heap.objs.size<=it) (f:∀x c,X.env.cells.lookup x=some c->c≠it) (j:∀p∈X.pn++pins,p.1≠it):Inv X pins σ H {s with heap:=h',toks:=t'}:=by
 have a:∀b u,H b=some u->b≠it:=λb u e z=>by rw[z,h]at e;cases e
 refine I.step (ch:=[it]) (λb hb=> ?_) (λb o _ _ hc e _=>k b o (λz=>hc (by simp[z])) e) (λb o _ _ hc e _=>⟨o.slots,k b o (λz=>hc (by simp[z])) e⟩) (λ_ _ _ _ n=>n)
  (λb o hc e=>⟨o,k b o (λz=>hc (by simp[z])) e⟩) (λ_ _ e=>e) (λ_ _ _ e=>e) (λb ps e=>⟨#[],by rw[e];simp⟩) (λm hm=> ?_) (λb u e=> ?_) I.bare
 .have e:b=it:=by simpa using hb
  subst e;exact⟨g,d,f,j⟩
 .obtain⟨o,i,l,m,r⟩:=hm
  exact⟨o,i,l,k _ o (Nd d) m,r⟩
 .refine(I.hok b u e).stay (λc v hc q=>k c v ?_ q) (λ_ q=>q) λ_ _ q=>q
  rcases hc with z|z
  .rw[z];exact a b u e
  .exact a c _ z
theorem Inv.tok(I:Inv X pins σ H s)(t:Nat):Inv X pins σ H {s with toks:=t}:=I.un Un.refl I.hok
theorem Inv.kept{t':Nat}(I:Inv X pins σ H s)(k:∀b u,s.heap.get? b=some u->h'.get? b=some u):Inv X pins σ H {s with heap:=h',toks:=t'}:=I.un (Un.kept k) (I.hok.kept k)
theorem Inv.laid{a:Addr}{o:HO}{t':Nat}(I:Inv X pins σ H s)(k:∀b u,s.heap.get? b=some u->h'.get? b=some u)(c:s.heap.objs.size<=a)(d:ah X.prog X.w (upd H a o) h' a o) :
  Inv X pins σ (upd H a o) {s with heap:=h',toks:=t'}:=I.un (Un.laid k c (I.hok.fresh c)) (I.hok.laid k c d)
theorem Inv.write{x e:Addr}{o:HO}{t':Nat}(I:Inv X pins σ H s)(d:MG (H x))(f:e=x\/H e=some (.own x))(k:∀b u,b≠e->s.heap.get? b=some u->h'.get? b=some u)(a:∃u,h'.get? e=some u)
  (c:ah X.prog X.w (upd H x o) h' x o):Inv X pins σ (upd H x o) {s with heap:=h',toks:=t'}:=I.un (Un.write d f k a) (I.hok.write d f k a c)
theorem Inv.weak(I:Inv X pins σ H s)(b:a.length=σ.length)(w:∀(i:Nat) v,a[i]? =some (some v)->σ[i]? =some (some v)):Inv X pins a H s := ⟨I.ok,I.os,I.bare,I.base,let⟨m,hn,hl'⟩:=I.loc;⟨m,hn,λi x v e1 e2 e3=>hl' i x v e1 (w i v e2) e3⟩,I.cell,I.free,I.freeC,I.pin,I.hok,b.trans I.len⟩
theorem Inv.pins_of(I:Inv X pins σ H s)(h:∀p∈a,s.heap.get? p.1=some p.2/\H p.1=none/\p.1≠X.env.locals/\p.1∉X.fs/\∀v,p.2.data≠.cell v):Inv X a σ H s := ⟨I.ok,I.os,I.bare,I.base,I.loc,I.cell,I.free,I.freeC,λp hp=>(M7.mp hp).elim (λz=>I.pin p (N6 _ z)) (h p),I.hok,I.len⟩
theorem iF{N:List Str}(c:N.Nodup){i j:Nat}(a:N[i]? =some x)(b:N[j]? =some x):i=j:=by obtain⟨g,d⟩:=Mh.mp a;obtain⟨f,e⟩:=Mh.mp b;exact(List.getElem_inj c).mp (d.trans e.symm)
theorem nM{A:Around}{v:V}(I:Inv X pins σ H s)(hN:X.N.Nodup)(Z:X.N[i]? =some x)(C:Loc X.env.scope x)(r:RelV v u)
  (h:∀s',Inv X pins (σ.set i (some v)) H s' ->(∃a,Heap.SameBut a s.heap s'.heap/\(a=X.env.locals\/X.env.cells.lookup x=some a))->Q () s') (hf:X.fn x=true\/X.env.scope.names.lookup x=some .local:=by first|exact .inl rfl|exact .inr rfl|assumption):wpAny M A (storeName X.env x u) Q E s:=by
 obtain⟨m,hn,hl⟩:=id I.loc;have Y:(X.env.scope.kind== .class||(X.env.scope.kind== .module&&X.env.locals !=X.env.globals))=false:=by rw[I.ok.kind];rfl
 have J:i<σ.length:=by rw[I.len];exact(Mh.mp Z).1
 have R:=I.cne;have f:∀{a:Addr}{h' :Heap},(∃o,s.heap.get? a=some o/\H a=none)->Heap.SameBut a s.heap h' ->eI X.prog X.w H h' :=λ{a h'} ha hs b ob e=>by
  obtain⟨_,_,D⟩:=ha;refine(I.hok b ob e).stay (λc w' l q=>(hs.2 c ?_).trans q) (λ_ q=>q) λ_ _ q=>q;rintro rfl
  rcases l with rfl|l
  .rw[D]at e;cases e
  .rw[D]at l;cases l
 rcases C with L|L
 .refine wpAny_storeName_local L hn (λh' hn' hs=> ?_) Y
  obtain⟨oL,_,_,a0,_⟩:=id hn;refine h _ ⟨I.ok,I.os,I.bare,⟨λb o e n hb C=> ?_,λb o e n hb C=> ?_,I.base.free,λb o e C=> ?_,I.base.tups,I.base.frzs,I.base.tbls⟩,⟨_,hn',λj y v' g e2 e3=> ?_⟩,λy c e=> ?_,I.free,I.freeC,λp hp=> ?_,f ⟨oL,a0,I.free⟩ hs,by simpa using I.len⟩ ⟨_,hs,.inl rfl⟩
  .exact(hs.2 b (Ms (NH (Mi e) I.ok.above))).trans (I.base.keep b o e n hb C)
  .obtain⟨sl,g⟩:=I.base.slot b o e n hb C
   exact⟨sl,(hs.2 b (Ms (NH (Mi e) I.ok.above))).trans g⟩
  .obtain⟨o',g⟩:=I.base.there b o e C
   exact⟨o',(hs.2 b (Ms (NH (Mi e) I.ok.above))).trans g⟩
  .by_cases O:j=i
   .subst O
    rw[Z]at g;cases g;rw[Nm J]at e2;cases e2;exact⟨u,r,.inl ⟨L,by simp⟩⟩
   .rw[NQ (Nd O)]at e2
    obtain⟨u',r',q⟩:=hl j y v' g e2 e3;refine⟨u',r',?_⟩
    rcases q with⟨k,e⟩|⟨k,c,e,z⟩
    .refine .inl ⟨k,?_⟩
     have:y≠x:=λe=>O (iF hN g (e▸Z));simp[this,e]
    .exact .inr ⟨k,c,e,z.sameBut hs (R y c e)⟩
  .obtain⟨w',z⟩:=I.cell y c e
   exact⟨w',z.sameBut hs (R y c e)⟩
  .obtain⟨e,n,ne,nf,d⟩:=I.pin p hp
   exact⟨(hs.2 p.1 ne).trans e,n,ne,nf,d⟩
 .have S:X.fn x=true:=by
   rcases hf with z|z
   .exact z
   .rw[z]at L;cases L
  obtain⟨c,l⟩:=I.ok.has x (.inl L);obtain⟨w',z⟩:=I.cell x c l;refine wpAny_storeName_cell I.ok.kind L l z (λh' hc' hs=> ?_);obtain⟨oc,U,T⟩:=id z;refine h {s with heap:=h'} ⟨I.ok,I.os,I.bare,⟨λb o e n hb C=> ?_,λb o e n hb C=> ?_,I.base.free,λb o e C=> ?_,I.base.tups,I.base.frzs,I.base.tbls⟩,⟨m,hn.sameBut hs (Nd (R x c l)),λj y v' g e2 e3=> ?_⟩,λy c' e=> ?_,I.free,I.freeC,λp hp=> ?_,f ⟨oc,U,I.freeC x c l⟩ hs,by simpa using I.len⟩ ⟨c,hs,.inr l⟩
  .exact(hs.2 b (Ms (NH (Mi e) (I.ok.cab x c S l)))).trans (I.base.keep b o e n hb C)
  .obtain⟨sl,g⟩:=I.base.slot b o e n hb C
   exact⟨sl,(hs.2 b (Ms (NH (Mi e) (I.ok.cab x c S l)))).trans g⟩
  .obtain⟨o',g⟩:=I.base.there b o e C
   exact⟨o',(hs.2 b (Ms (NH (Mi e) (I.ok.cab x c S l)))).trans g⟩
  .by_cases O:j=i
   .subst O
    rw[Z]at g;cases g;rw[Nm J]at e2;cases e2;exact⟨u,r,.inr ⟨.inl L,c,l,hc'⟩⟩
   .rw[NQ (Nd O)]at e2
    obtain⟨u',r',q⟩:=hl j y v' g e2 e3;refine⟨u',r',?_⟩
    rcases q with q|⟨k,c',e,z'⟩
    .exact .inl q
    .refine .inr ⟨k,c',e,z'.sameBut hs ?_⟩
     rintro rfl;exact O (iF hN g (I.ok.inj _ _ _ e l▸Z))
  .by_cases W:c' =c
   .subst W;exact⟨_,hc'⟩
   .obtain⟨w2,z2⟩:=I.cell y c' e
    exact⟨w2,z2.sameBut hs W⟩
  .obtain⟨e,n,ne,nf,d⟩:=I.pin p hp
   refine⟨(hs.2 p.1 ?_).trans e,n,ne,nf,d⟩;intro q;rw[q,U]at e;have q' :=Mx e;exact d w' (by rwa[<- q'])
theorem fM{A:Around}{v:V}(I:Inv X pins σ H s)(hN:X.N.Nodup)(hi:X.N[i]? =some x)(hx:Loc X.env.scope x)(r:RelV v u)
  (h:∀s',Inv X pins (σ.set i (some v)) H s' ->Q () s') (hf:X.fn x=true\/X.env.scope.names.lookup x=some .local:=by first|exact .inl rfl|exact .inr rfl|assumption):wpAny M A (storeName X.env x u) Q E s :=
 nM I hN hi hx r (λs' I' _=>h s' I') hf
theorem Inv.call'{s':Shared}{ch:List Addr}(I:Inv X pins σ H s)(l:s'.os=s.os)(u:Un (uQ X.stack) ch H H' s.heap s'.heap)(a:eI X.prog X.w H' s'.heap)(i:AllBare s'.gens)
  (d:∀b∈ch,(b∈X.ex\/X.s₀.heap.objs.size<=b)/\b≠X.env.locals/\(∀x c,X.env.cells.lookup x=some c->c≠b)/\∀p∈X.pn++pins,p.1≠b):Inv X pins σ H' s' :=by
 obtain⟨m,f,h,g,j⟩:=s';subst l;exact I.call u a i d
end
abbrev XK:=Value->Option Addr->Hp->Prop
abbrev St:=List (Option V)
abbrev VK:=V->Hp->Prop
abbrev TE:=St->Hp->VK->Prop
abbrev TT:=St->Hp->(Bool->Hp->Prop)->Prop
abbrev TA:=St->Hp->(List V->Hp->Prop)->Prop
structure cE where
 nx:St->Hp->Prop
 rt:VK
 bk:St->Hp->Prop:=fun _ _=>False
 ct:St->Hp->Prop:=fun _ _=>False
abbrev TS:=cE->St->Hp->Prop
def EP(X:Cx)(a:List (Addr×Obj))(c:St)(Q:VK)(u:Value)(d :Shared):Prop:=∃v b,Inv X a c b d /\RelV v u/\Q v b
def TP(X:Cx)(a:List (Addr×Obj))(d:St)(Q:Bool->Hp->Prop)(b:Bool)(e :Shared):Prop:=∃c,Inv X a d c e /\Q b c
def AP(X:Cx)(a:List (Addr×Obj))(e:St)(Q:List V->Hp->Prop)(d:List Value)(f :Shared):Prop:=∃c b,Inv X a e b f /\aM c d/\Q c b
def SP(X:Cx)(b:List (Addr×Obj))(D:cE)(f:Flow)(d :Shared):Prop :=
 match f with
 | .next=>∃a c,Inv X b a c d /\D.nx a c| .brk=>∃a c,Inv X b a c d /\D.bk a c| .cont=>∃a c,Inv X b a c d /\D.ct a c| .ret u=>∃v a c,Inv X b a c d /\RelV v u/\D.rt v c
def PE(X:Cx)(e:Expr)(t:TE):Prop :=
 ∀(a:List (Addr×Obj))(s:Shared)(b:St)(H:Hp)(Q:VK),Inv X a b H s->t b H Q->wpAny (model X.prog X.w) X.A (eval e X.env) (EP X a b Q) X.xe s
def PT(X:Cx)(e:Expr)(t:TT):Prop :=
 ∀(a:List (Addr×Obj))(s:Shared)(b:St)(H:Hp)(Q:Bool->Hp->Prop),Inv X a b H s->t b H Q->wpAny (model X.prog X.w) X.A (isTrue e X.env (eval e X.env)) (TP X a b Q) X.xe s
def PW(X:Cx)(e:Expr)(t:TT):Prop :=
 ∀(b:Sem Value)(a:List (Addr×Obj))(s:Shared)(c:St)(H:Hp)(Q:Bool->Hp->Prop),Inv X a c H s->t c H Q->wpAny (model X.prog X.w) X.A (isTrue e X.env b) (TP X a c Q) X.xe s
theorem PW.pt{t:TT}(h:PW X e t):PT X e t:=h _
def PA(X:Cx)(c:List Expr)(t:TA):Prop :=
 ∀(pos:Pos)(a:List (Addr×Obj))(s:Shared)(b:St)(H:Hp)(Q:List V->Hp->Prop),Inv X a b H s->t b H Q->wpAny (model X.prog X.w) X.A (spliced (backTo pos (starEach c X.env))) (AP X a b Q) X.xe s
def PS(X:Cx)(c:Stmt)(t:TS):Prop :=
 ∀(a:List (Addr×Obj))(s:Shared)(b:St)(H:Hp)(D:cE),Inv X a b H s->t D b H->wpAny (model X.prog X.w) X.A (exec c X.env) (SP X a D) X.xe s
def qK(X:Cx)(c:List Stmt)(t:TS):Prop :=
 ∀(a:List (Addr×Obj))(s:Shared)(b:St)(H:Hp)(D:cE),Inv X a b H s->t D b H->wpAny (model X.prog X.w) X.A (execs c X.env) (SP X a D) X.xe s
theorem aj{b:Type}{t:Sem b}{Q c:b->Shared->Prop}{A:Around}(h:wpAny M A t Q E s)(d:∀a s,Q a s->c a s):wpAny M A t c E s:=No h d λ_ _ x=>x
section
variable{X:Cx}
def KZ(i:Nat):TE:=λσ H Q=>∃v,σ[i]? =some (some v)/\Q v H
def tC(v:V):TE:=λ_ H Q=>Q v H
theorem uv(y:X.N[i]? =some x)(p:J9 X.env.scope x)(g:(x==("__debug__":Str))=false:=by decide)(j:(x==("__classdict__":Str))=false:=by decide):PE X (.Name x pos) (KZ i):=by
 intro f s o H Q I h;obtain⟨v,e,h⟩:=h;obtain⟨m,w,z⟩:=I.loc;obtain⟨u,r,l⟩:=z i x v y e p;have d:EP X f o Q u s:=⟨v,H,I,r,h⟩
 rcases l with⟨b,q⟩|⟨b,c,n,a⟩
 .exact wpAny_Name (wpAny_loadName_local I.ok.kind b w q d) g
 .rcases b with b|b
  .exact wpAny_Name (wpAny_loadName_cell I.ok.kind b n a d) g
  .exact wpAny_Name (wpAny_loadName_free I.ok.kind b n a d j) g
theorem cz{i j pos}:PE X (.Constant (.int i) j pos) (tC (.int i)):=λ_ _ _ H _ I h=>wpAny_Constant_int ⟨.int i,H,I.tok _,⟨_,rfl⟩,h⟩
theorem fT{b j pos}:PE X (.Constant (.bool b) j pos) (tC (.bl b)):=λ_ _ _ H _ I h=>Constant_bool ⟨.bl b,H,I,rfl,h⟩
theorem uy{j pos}:PE X (.Constant .none j pos) (tC .non):=λ_ _ _ H _ I h=>Constant_none ⟨.non,H,I,rfl,h⟩
theorem ux{x j pos}:PE X (.Constant (.str x) j pos) (tC (.str x)):=λ_ _ _ H _ I h=>Calls.Constant_str ⟨.str x,H,I.tok _,⟨_,rfl⟩,h⟩
def Gl(X:Cx)(x:Str):Prop:=X.env.kindOf x=some .globalImplicit
theorem fo(I:Inv X a b H s)(c:Gl X x)(d:X.mg x=some u)(h:Q u s)
  (e:(x==("__debug__":Str))=false:=by decide):wpAny (model X.prog X.w) X.A (eval (.Name x pos) X.env) Q E s :=
 Calls.Name_function_global I.ok.kind c (Calls.loadGlobal_global (by rw[I.ok.glob];exact I.mod.glob.keeps I.bk) d h) e
theorem dB(I:Inv X a d H s)(g:Gl X x)(e:X.mg x=none)(i:bootBuiltins x=some u)(h:Q u s)
  (c:x≠"__name__":=by decide) (j:(x==("__debug__":Str))=false:=by decide):wpAny (model X.prog X.w) X.A (eval (.Name x pos) X.env) Q E s:=by
 obtain⟨l,f,b⟩:=I.mod.blt;exact Calls.Name_function_global I.ok.kind g (Calls.loadGlobal_builtin (by rw[I.ok.glob];exact I.mod.glob.keeps I.bk) e (by rw[I.ok.blt];exact f.keeps I.bk) ((b x c).trans i) h) j
theorem iC{v:V}(a:Gl X x)(b:X.mg x=some u)(r:RelV v u)(c:(x==("__debug__":Str))=false:=by decide):PE X (.Name x pos) (tC v) := λ_ _ _ H _ I h=>fo I a b ⟨v,H,I,r,h⟩ c
theorem EA{v:V}(b:Gl X x)(d:X.mg x=none)(c:bootBuiltins x=some u)(r:RelV v u)(a:x≠"__name__":=by decide)(e:(x==("__debug__":Str))=false:=by decide):PE X (.Name x pos) (tC v) := λ_ _ _ H _ I h=>dB I b d c ⟨v,H,I,r,h⟩ a e
variable{a b:Expr}{ta tb:TE}{pos:Pos}
def tB(t:TE):TT:=λσ H Q=>t σ H λx H1=>∃c,x=.bl c/\Q c H1
theorem HG{t:TE}(h:PE X e t)(i:∀c,isTrue e X.env c=(do let v<-c;standAt e.pos;holding [v] (truthy v)):=by intro _;rfl):PT X e (tB t):=by intro f s j H Q I g;refine isTrue_plain (aj (h f s j H _ I g) λv s1 ⟨x,H1,I1,r1,q1⟩=> ?_) (i _);obtain⟨d,rfl,q⟩:=q1;cases r1;exact N1 ⟨H1,I1,q⟩
variable{tA tB' :TT}{aP:List Expr}
def tAnd(t u:TT):TT:=λσ H Q=>t σ H λc H1=>if c=true then u σ H1 Q else Q false H1
def tOr(t u:TT):TT:=λσ H Q=>t σ H λc H1=>if c=true then Q true H1 else u σ H1 Q
def tNot(t:TT):TT:=λσ H Q=>t σ H λc H1=>Q (!c) H1
theorem wb(g:PT X a tA):PW X (.BoolOp .And [a] pos) tA:=by
 intro i d s f H Q I h;refine isTrue_and (aj (g d s f H Q I h) λc s1 e=> ?_);cases c with
 |true=>exact isTrue_and_nil e|false=>exact e
theorem HC(g:PT X a tA):PW X (.BoolOp .Or [a] pos) tA:=by
 intro i d s f H Q I h;refine isTrue_or (aj (g d s f H Q I h) λc s1 e=> ?_);cases c with
 |false=>exact isTrue_or_nil e|true=>exact e
theorem As(m:PT X a tA)(j:PW X (.BoolOp .And (b::aP) pos) tB'):PW X (.BoolOp .And (a::b::aP) pos) (tAnd tA tB'):=by
 intro l d s f H Q I h;refine isTrue_and (aj (m d s f H _ I h) λc s1 hpq=> ?_);obtain⟨i,g,e⟩:=hpq;cases c with
 |true=>exact j l d s1 f i Q g e|false=>exact⟨i,g,e⟩
theorem K1(m:PT X a tA)(j:PW X (.BoolOp .Or (b::aP) pos) tB'):PW X (.BoolOp .Or (a::b::aP) pos) (tOr tA tB'):=by
 intro l d s f H Q I h;refine isTrue_or (aj (m d s f H _ I h) λc s1 hpq=> ?_);obtain⟨i,g,e⟩:=hpq;cases c with
 |true=>exact⟨i,g,e⟩|false=>exact j l d s1 f i Q g e
theorem HH(f:PT X a tA):PT X (.UnaryOp .Not a pos) (tNot tA):=by intro d s e H Q I h;exact isTrue_not (f d s e H (λc H1=>Q (!c) H1) I h)
def Kj(d e:TE):TE:=λσ H Q=>d σ H λx H1=>∃c,x=.bl c/\if c=true then e σ H1 Q else Q (.bl false) H1
def tOrV(d e:TE):TE:=λσ H Q=>d σ H λx H1=>∃c,x=.bl c/\if c=true then Q (.bl true) H1 else e σ H1 Q
def Kc(d:TE):TE:=λσ H Q=>d σ H λx H1=>∃c,x=.bl c/\Q (.bl (!c)) H1
theorem HX{op}{t:TE}(h:PE X a t):PE X (.BoolOp op [a] pos) t:=λpins s σ H Q I hw=>BoolOp_one (h pins s σ H Q I hw)
theorem BA(l:PE X a ta)(j:PE X (.BoolOp .And (b::aP) pos) tb):PE X (.BoolOp .And (a::b::aP) pos) (Kj ta tb):=by
 intro d s f H Q I h;refine BoolOp_and (aj (l d s f H _ I h) λv s1 hpq=> ?_);obtain⟨x,i,g,m,e⟩:=hpq;obtain⟨c,rfl,e⟩:=e;cases m;refine N1 ?_;cases c with
 |true=>exact j d s1 f i Q g e|false=>exact⟨.bl false,i,g,rfl,e⟩
theorem F8(l:PE X a ta)(j:PE X (.BoolOp .Or (b::aP) pos) tb):PE X (.BoolOp .Or (a::b::aP) pos) (tOrV ta tb):=by
 intro d s f H Q I h;refine BoolOp_or (aj (l d s f H _ I h) λv s1 hpq=> ?_);obtain⟨x,i,g,m,e⟩:=hpq;obtain⟨c,rfl,e⟩:=e;cases m;refine N1 ?_;cases c with
 |false=>exact j d s1 f i Q g e|true=>exact⟨.bl true,i,g,rfl,e⟩
theorem HY(g:PE X a ta):PE X (.UnaryOp .Not a pos) (Kc ta):=by intro d s f H Q I h;refine UnaryOp_ (aj (g d s f H _ I h) λv s1 hpq=> ?_);obtain⟨x,j,l,i,e⟩:=hpq;obtain⟨c,rfl,e⟩:=e;cases i;exact not_of (N1 ⟨.bl (!c),j,l,rfl,e⟩)
def tIf(t:TT)(d e:TE):TE:=λσ H Q=>t σ H λc H1=>if c=true then d σ H1 Q else e σ H1 Q
theorem A9(n:PT X c tA)(m:PE X a ta)(l:PE X b tb):PE X (.IfExp c a b pos) (tIf tA ta tb):=by
 intro e s f H Q I h;refine wpAny_IfExp (aj (n e s f H _ I h) λd s1 hpq=> ?_);obtain⟨j,i,g⟩:=hpq;cases d with
 |true=>exact m e s1 f j Q i g|false=>exact l e s1 f j Q i g
end
def bH(K:W.Frag)(H:Hp)(a:Addr)(c:List V):Prop :=
 Rd H a (.lst c) \/ ∃(o:Obj)(b:Array Value)(n:Nat),K.lookup a=some o/\o.cls=.type "list"/\o.dict=none/\o.data=.seq b n/\b.size<=sizeLine/\aM c b.toList
def bT(K:W.Frag)(H:Hp)(a:Addr)(c:List V):Prop :=
 Rd H a (.tup c) \/ ∃(o:Obj)(b:Array Value)(n:Nat),K.lookup a=some o/\o.cls=.type "tuple"/\o.dict=none/\o.data=.seq b n/\b.size<=sizeLine/\aM c b.toList
def absV:Value->Option V
 | .none=>some .non| .bool b=>some (.bl b)| .int i _=>some (.int i)| .str x _=>some (.str x)| .bytes b _=>some (.byt b)| .float b _=>some (.flt b)| .ref a=>some (.ref a)| .type n=>some (.ty n)|_=>none
theorem RelV.abs(r:RelV x u):absV u=some x:=by
 cases x with
 |non=>cases r;rfl|bl _=>cases r;rfl|int _=>obtain⟨t,rfl⟩:=r;rfl
 |str _=>obtain⟨t,rfl⟩:=r;rfl
 |byt _=>obtain⟨t,rfl⟩:=r;rfl
 |flt _=>obtain⟨t,rfl⟩:=r;rfl
 |ref _=>cases r;rfl|ty _=>cases r;rfl
theorem RelV.inj(r:RelV x u)(q:RelV y u):x=y:=Mx (r.abs.symm.trans q.abs)
theorem aM.inj(h:aM c b)(k:aM a b):c=a:=by
 induction h generalizing a with
 |nil=>cases k;rfl|cons r t e =>
  cases k with
  |cons f d =>rw[r.inj f,e d]
section
variable{X:Cx}{pins:List (Addr×Obj)}{σ:St}{H:Hp}{s:Shared}{a:Addr}{xs ys:List V}
theorem bH.of{K:W.Frag}(h:H a=some (.lst xs)):bH K H a xs:=.inl (.inl h)
theorem bT.of{K:W.Frag}(h:H a=some (.tup xs)):bT K H a xs:=.inl (.inl h)
theorem Inv.list(I:Inv X pins σ H s)(h:bH X.K H a xs):∃b:List Value,aM xs b/\PlainL s.heap a b.toArray/\xs.length<=sizeLine:=by
 rcases h with h|⟨o,b,n,d,f,g,c,i,r⟩
 .obtain⟨z,b,n,r,e⟩:=h.ok I.hok
  exact⟨b,r,⟨_,n,e,rfl,rfl,rfl⟩,z⟩
 .refine⟨b.toList,r,⟨o,n,I.kIn a o d,f,g,by simpa using c⟩,?_⟩
  have e:=r.length;simp only[M0]at e;omega
theorem Inv.tuple(I:Inv X pins σ H s)(h:bT X.K H a xs):∃b:List Value,aM xs b/\IsTup s.heap a b.toArray/\xs.length<=sizeLine:=by
 rcases h with h|⟨o,b,n,d,f,_,c,g,r⟩
 .obtain⟨z,b,r,p⟩:=h.ok I.hok
  exact⟨b,r,p.tup,z⟩
 .refine⟨b.toList,r,⟨o,I.kIn a o d,f,n,by simpa using c⟩,?_⟩
  have e:=r.length;simp only[M0]at e;omega
theorem Inv.tupleD(I:Inv X pins σ H s)(h:bT X.K H a xs):∃o,s.heap.get? a=some o/\o.cls=.type "tuple"/\o.dict=none:=by
 rcases h with h|⟨o,b,n,f,g,i,_⟩
 .obtain⟨z,b,r,o,e,c,n,_,d⟩:=h.ok I.hok
  exact⟨o,e,c,d⟩
 .exact⟨o,I.kIn a o f,g,i⟩
theorem Inv.list_inj(I:Inv X pins σ H s)(h:bH X.K H a xs)(j :bH X.K H a ys):xs=ys:=by
 obtain⟨c,r,⟨o,n,e,_,_,d⟩,_⟩:=I.list h;obtain⟨b,i,⟨l,m,f,_,_,g⟩,_⟩:=I.list j;rw[e]at f;cases f;rw[d]at g
 injection g with d1 _
 have:c=b :=by simpa using NG Array.toList d1
 subst this;exact r.inj i
theorem Inv.tuple_inj(I:Inv X pins σ H s)(h:bT X.K H a xs)(j :bT X.K H a ys):xs=ys:=by
 obtain⟨c,r,⟨o,e,_,n,d⟩,_⟩:=I.tuple h;obtain⟨b,i,⟨l,f,_,m,g⟩,_⟩:=I.tuple j;rw[e]at f;cases f;rw[d]at g
 injection g with d1 _
 have:c=b :=by simpa using NG Array.toList d1
 subst this;exact r.inj i
end
abbrev Cx.wish(X:Cx)(E:Value->Shared->Prop):Cx:={X with xe:=E}
abbrev Cx.nox(X:Cx):Cx:=X.wish λ_ _=>False
theorem Cx.Ok.wish{X:Cx}(a:X.Ok)(E:Value->Shared->Prop):(X.wish E).Ok := ⟨a.mod,a.kind,a.glob,a.blt,a.above,a.inj,a.has,a.cab,a.hd,a.frames,a.stk,a.exf,a.bs,a.bsz,a.noex,a.exfs,a.funs,a.frf⟩
theorem Cx.Ok.unwish{X:Cx}(a:(X.wish E).Ok):X.Ok := ⟨a.mod,a.kind,a.glob,a.blt,a.above,a.inj,a.has,a.cab,a.hd,a.frames,a.stk,a.exf,a.bs,a.bsz,a.noex,a.exfs,a.funs,a.frf⟩
section
variable{X:Cx}{pins:List (Addr×Obj)}{σ:St}{H:Hp}{s:Shared}{E:Value->Shared->Prop}
theorem Inv.wish(I:Inv X pins σ H s)(E:Value->Shared->Prop):Inv (X.wish E) pins σ H s:=⟨I.ok.wish E,I.os,I.bare,I.base,I.loc,I.cell,I.free,I.freeC,I.pin,I.hok,I.len⟩
theorem Inv.unwish(I:Inv (X.wish E) pins σ H s):Inv X pins σ H s:=⟨I.ok.unwish,I.os,I.bare,I.base,I.loc,I.cell,I.free,I.freeC,I.pin,I.hok,I.len⟩
theorem SP.unwish(h:SP (X.wish E) pins D f c):SP X pins D f c :=by
 cases f with
 |next=>obtain⟨a,b,I,q⟩:=h;exact⟨a,b,I.unwish,q⟩
 |brk=>obtain⟨a,b,I,q⟩:=h;exact⟨a,b,I.unwish,q⟩
 |cont=>obtain⟨a,b,I,q⟩:=h;exact⟨a,b,I.unwish,q⟩
 |ret u=>obtain⟨v,a,b,I,r,q⟩:=h;exact⟨v,a,b,I.unwish,r,q⟩
theorem qK.nox{t:TS}(h:qK X.nox a t):qK X a t:=λpins s σ H D I hw =>
 No (h pins s σ H D (I.wish _) hw) (λ_ _ q=>q.unwish) λ_ _ z=>False.elim z
end
section
variable{X:Cx}{st:Stmt}{aP:List Stmt}{t u:TS}{e:Expr}{te:TE}{pos:Pos}
def F2:TS:=λD σ H=>D.nx σ H
def tSeq(t u:TS):TS:=λD σ H=>t {D with nx:=u D} σ H
theorem pA:qK X [] F2:=λ_ _ σ H _ I h=>Px ⟨σ,H,I,h⟩
theorem aZ(j:PS X g t)(c:qK X aP u):qK X (g::aP) (tSeq t u):=by
 intro a s i H D I h;refine wpAny_execs_cons (aj (j a s i H {D with nx:=u D} I h) λf s1 q=> ?_);cases f with
 |next =>obtain⟨b,d,l,q⟩:=q;exact c a s1 b d D l q
 |ret v=>exact q|brk=>exact q|cont=>exact q
theorem ae(c:PS X st t):qK X [st] t:=by
 intro a s b H D I h;refine wpAny_execs_cons (aj (c a s b H D I h) λf s1 q=> ?_);cases f with
 |next=>exact Px q|ret v=>exact q|brk=>exact q|cont=>exact q
def Gn:TS:=λD σ H=>D.bk σ H
def Kg:TS:=λD σ H=>D.ct σ H
theorem Dx:PS X (.Pass pos) F2:=λ_ _ σ H _ I h=>wpAny_Pass ⟨σ,H,I,h⟩
theorem Az:PS X (.Break pos) Gn:=λ_ _ σ H _ I h=>wpAny_Break ⟨σ,H,I,h⟩
theorem rW:PS X (.Continue pos) Kg:=λ_ _ σ H _ I h=>wpAny_Continue ⟨σ,H,I,h⟩
theorem Inv.quiet(I:Inv X a b H s):interactive X.env=false:=by simp[interactive,I.ok.kind]
def Kd(a:TE):TS:=λD σ H=>a σ H λ_ H1=>D.nx σ H1
theorem hU(d:PE X e te)(c:swapsWith e none pos.line X.env=pure false:=by rfl):PS X (.Expr e pos) (Kd te):=by intro a s b H D I h;exact wpAny_Expr_any (aj (d a s b H _ I h) λv s1 ⟨x,H1,I1,r1,q1⟩=>⟨b,H1,I1,q1⟩) I.quiet c
def tRet(a:TE):TS:=λD σ H=>a σ H D.rt
theorem jW(c:PE X e te):PS X (.Return (some e) pos) (tRet te):=by intro a s b H D I h;exact wpAny_Return_some (aj (c a s b H _ I h) λv s1 ⟨x,H1,I1,r1,q1⟩=>⟨x,b,H1,I1,r1,q1⟩)
def Ka:TS:=λD _ H=>D.rt .non H
theorem Dw:PS X (.Return none pos) Ka:=λ_ _ σ H _ I h=>wpAny_Return_none ⟨.non,σ,H,I,rfl,h⟩
def tIfS(c:TT)(t u:TS):TS:=λD σ H=>c σ H λb H1=>if b=true then t D σ H1 else u D σ H1
theorem rV(p:PT X c j)(o:qK X a t)(n:qK X b u):PS X (.If c a b pos) (tIfS j t u):=by
 intro f s g H D I h;refine wpAny_If (aj (p f s g H _ I h) λd s1 hpq=> ?_);obtain⟨l,m,i⟩:=hpq;cases d with
 |true=>exact o f s1 g l D m i|false=>exact n f s1 g l D m i
end
abbrev TG:=V->St->Hp->(St->Hp->Prop)->Prop
abbrev Jj:=List V->St->Hp->(St->Hp->Prop)->Prop
def PG(X:Cx)(a:Expr)(t:TG):Prop :=
 ∀(b:List (Addr×Obj))(s:Shared)(e:St)(H:Hp)(v:V)(u:Value)(Q:St->Hp->Prop),Inv X b e H s->RelV v u->t v e H Q -> wpAny (model X.prog X.w) X.A (assign a X.env u) (λ_ s' =>∃c d,Inv X b c d s' /\Q c d) X.xe s
def MB(X:Cx)(g:List Expr)(t:Jj):Prop :=
 ∀(a:List (Addr×Obj))(s:Shared)(e:St)(H:Hp)(f:List V)(c:List Value)(Q:St->Hp->Prop),Inv X a e H s->aM f c->t f e H Q -> wpAny (model X.prog X.w) X.A (assignInOrder ((assignEach g X.env).map (·.2)) c) (λ_ s' =>∃b d,Inv X a b d s' /\Q b d) X.xe s
abbrev Ji:=V->V->V->Hp->(Hp->Prop)->Prop
def MA(X:Cx)(t:Ji):Prop :=
 ∀(a:List (Addr×Obj))(s:Shared)(d:St)(H:Hp)(o i v:V)(e b u:Value)(Q:Hp->Prop),Inv X a d H s->RelV o e->RelV i b->RelV v u->t o i v H Q -> wpAny (model X.prog X.w) X.A (setItem e b u) (λ_ s' =>∃c,Inv X a d c s' /\Q c) X.xe s
abbrev TIp:=V->V->Hp->VK->Prop
def PIp(X:Cx)(c:Operator)(t:TIp):Prop :=
 ∀(a:List (Addr×Obj))(s:Shared)(b:St)(H:Hp)(x y:V)(v u:Value)(Q:VK),Inv X a b H s->RelV x v->RelV y u->t x y H Q -> wpAny (model X.prog X.w) X.A (inplaceOp c v u) (EP X a b Q) X.xe s
section
variable{X:Cx}{pos:Pos}
def tH(i:Nat):TG:=λv σ H Q=>Q (σ.set i (some v)) H
theorem av{i:Nat}(b:X.N.Nodup)(e:X.N[i]? =some x)(d:Loc X.env.scope x)(c:X.fn x=true\/X.env.scope.names.lookup x=some .local:=by first|exact .inl rfl|exact .inr rfl|assumption):PG X (.Name x pos) (tH i):=by intro a s f H v u Q I r h;exact wpAny_assign_Name (fM I b e d r (λs' I' =>⟨_,H,I',h⟩) c)
def gNil:Jj:=λvs σ H Q=>vs=[]/\Q σ H
def LZ(t:TG)(u:Jj):Jj:=λvs σ H Q=>∃v r,vs=v::r/\t v σ H λσ' H' =>u r σ' H' Q
theorem iB:MB X [] gNil:=by intro a s b H d c Q I r h;obtain⟨e,h⟩:=h;subst e;cases r;exact assignInOrder_nil ⟨b,H,I,h⟩
theorem b9{t:TG}(g:PG X e t)(d:MB X b u)
  (m:(assignEach (e::b) X.env).map (·.2)=assign e X.env::(assignEach b X.env).map (·.2):=by rfl):MB X (e::b) (LZ t u):=by
 intro a s f H w q Q I r h;obtain⟨v,p,i,h⟩:=h;subst i;cases r with
 |cons r l =>rw[m];refine assignInOrder_cons (aj (g a s f H _ _ _ I r h) λ_ s1 hpq=> ?_);obtain⟨c,o,j,n⟩:=hpq;exact d a s1 c o _ _ Q j l n
def gTup(K:W.Frag)(n:Nat)(t:Jj):TG:=λv σ H Q=>∃a b,v=.ref a/\bT K H a b/\b.length=n/\t b σ H Q
theorem lD{k:Nat}{t:Jj}(y:X.calm=true)(h:MB X d t)
  (q:(assignEach d X.env).length=n:=by rfl) (f:(assignEach d X.env).findIdx? (·.1)=none:=by rfl):PG X (.Tuple d k pos) (gTup X.K n t):=by
 intro c s i H v u Q I r g;obtain⟨a,p,m,w,x,g⟩:=g;subst m;cases r;obtain⟨A,j,l,C⟩:=I.tuple w;refine assign_Tuple_tuple (I.ok.hd y) l (by simp[q,<-x,j.length]) f λh' hx=> ?_;exact h c _ i H p _ Q (I.kept (t' :=s.toks) λb o e=>hx b o (Ms (Mi e)) e) (by simpa using j) g
def gSub(b a:TE)(t:Ji):TG:=λv σ H Q=>b σ H λo H1=>a σ H1 λi H2=>t o i v H2 λH3=>Q σ H3
theorem HW{o:Expr}{t:Ji}(E:PE X o c)(C:PE X i d)(q:MA X t)
  (l:∀v,assign (.Subscript o i pos) X.env v=(do
   let ov<-holding [v] (eval o X.env)
   let iv<-holding [v,ov] (eval i X.env)
   standAt pos
   holding [v,ov,iv] (setItem ov iv v)
   release [v,ov,iv] []):=by intro _;rfl):PG X (.Subscript o i pos) (gSub c d t):=by
 intro a s b H v u Q I r h;refine MS (NV (aj (E a s b H _ I h) λov s1 hpq=> ?_));obtain⟨x,D,p,f,w⟩:=hpq;refine MS (NV (aj (C a s1 b D _ p w) λiv s2 hpq=> ?_));obtain⟨y,m,j,A,g⟩:=hpq;refine MS (wpAny_standAt (MS (NV (aj (q a s2 b m x y v ov iv u _ j f A r g) λ_ s3 hpq=> ?_))));obtain⟨n,e,z⟩:=hpq;exact wpAny_release ⟨b,n,e,z⟩
def Go(a:TE)(g:TG):TS:=λD σ H=>a σ H λx H1=>g x σ H1 D.nx
theorem HJ(j:PE X e d)(l:PG X b g)(i:swapsWithSole [b] e pos.line X.env=pure false:=by rfl)(f:swappedStores [b] e X.env=pure none:=by rfl)
  (m:(assignEach [b] X.env).map (·.2)=[assign b X.env]:=by rfl):PS X (.Assign [b] e pos) (Go d g):=by
 intro a s c H D I h;refine wpAny_Assign_stores (aj (j a s c H _ I h) λv s1 ⟨x,H1,I1,r1,q1⟩=> ?_) i f;rw[m];exact aj (l a s1 c H1 x v _ I1 r1 q1) λ_ s2 q=>q
theorem b8{i:Nat}(d:X.N.Nodup)(n:X.N[i]? =some x)(g:Loc X.env.scope x)(l:PE X e c)(f:swapsWith e (some (.Name x a)) pos.line X.env=pure false:=by rfl)(j:X.fn x=true\/X.env.scope.names.lookup x=some .local:=by first|exact .inl rfl|exact .inr rfl|assumption) :
  PS X (.Assign [.Name x a] e pos) (Go c (tH i)):=by
 intro b s m H D I h;refine wpAny_Assign_Name (aj (l b s m H _ I h) λv s1 ⟨y,H1,I1,r1,q1⟩=> ?_) f;exact fM I1 d n g r1 (λs2 I2=>⟨_,H1,I2,q1⟩) j
def tAug(i:Nat)(b:TE)(a:TIp):TS:=λD σ H=>∃x,σ[i]? =some (some x)/\b σ H λy H1=>a x y H1 λz H2=>D.nx (σ.set i (some z)) H2
theorem HI(hN:X.N.Nodup)(hi:X.N[i]? =some x)(hx:Loc X.env.scope x)(he:PE X e te)(ho:PIp X op ti)(hf:X.fn x=true\/X.env.scope.names.lookup x=some .local:=by first|exact .inl rfl|exact .inr rfl|assumption) :
  PS X (.AugAssign (.Name x pos') op e pos) (tAug i te ti):=by
 intro pins s σ H D I h;obtain⟨v,e1,h⟩:=h;obtain⟨m,hn,hl⟩:=I.loc;have GW:J9 X.env.scope x:=by rcases hx with k|k;exact .inl k;exact .inr (.inl k)
 obtain⟨u,r,l⟩:=hl i x v hi e1 GW;refine wpAny_AugAssign_Name ?_;have go:wpAny (model X.prog X.w) X.A (eval e X.env) (λw s₂=>wpAny (model X.prog X.w) X.A (inplaceOp op u w) (λr s₃=>wpAny (model X.prog X.w) X.A (storeName X.env x r) (λ_=>SP X pins D .next) X.xe s₃) X.xe s₂) X.xe s:=by refine aj (he pins s σ H _ I h) λw s1 hpq=> ?_;obtain⟨y,H1,I1,r1,q1⟩:=hpq;refine aj (ho pins s1 σ H1 v y u w _ I1 r r1 q1) λz s2 hpq=> ?_;obtain⟨zv,H2,I2,r2,q2⟩:=hpq;exact fM I2 hN hi hx r2 (λs3 I3=>⟨_,H2,I3,q2⟩) hf
 rcases l with⟨hk,hm⟩|⟨hk,c,hc,hcell⟩
 .exact wpAny_loadName_local I.ok.kind hk hn hm go
 .rcases hk with hk|hk
  .exact wpAny_loadName_cell I.ok.kind hk hc hcell go
  .rcases hx with k|k
   .have:X.env.scope.names.lookup x=some .free:=hk
    rw[k]at this;cases this
   .have:X.env.scope.names.lookup x=some .free:=hk
    rw[k]at this;cases this
def ipI(f:Int->Int->Int):TIp:=λx y H Q=>∃i j,x=.int i/\y=.int j/\Q (.int (f i j)) H
theorem Ii:PIp X .Add (ipI λi j=>i+j):=by intro a s f H x y v u Q I b e h;obtain⟨i,j,c,d,q⟩:=h;subst c;subst d;obtain⟨t,rfl⟩:=b;obtain⟨g,rfl⟩:=e;exact iadd_int ⟨.int _,H,I.tok _,⟨_,rfl⟩,q⟩
theorem Ih:PIp X .Sub (ipI λi j=>i-j):=by intro a s f H x y v u Q I b e h;obtain⟨i,j,c,d,q⟩:=h;subst c;subst d;obtain⟨t,rfl⟩:=b;obtain⟨g,rfl⟩:=e;exact isub_int ⟨.int _,H,I.tok _,⟨_,rfl⟩,q⟩
def Gg(c:TT)(g:TS):TS:=λD a H=>∃W:Nat->St->Hp->Prop,(∃m,W m a H)/\∀m a H,W m a H -> c a H λb H1=>if b=true then∃N:St->Hp->Prop,(∀d e,N d e ->∃f,f <m/\W f d e)/\g {D with nx:=N,ct:=N,bk:=D.nx} a H1 else D.nx a H1
theorem rS{body:List Stmt}(x:PassesOwn (model X.prog X.w) X.A X.env X.xe)(U:PT X c z)(R:qK X body C):PS X (.While c body [] pos) (Gg z C):=by
 intro a s M H D I h;obtain⟨W,⟨O,S⟩,i⟩:=h;refine wpAny_While (codeAny_whileLoop (λn s' =>∃g u,Inv X a g u s' /\W n g u) ?_ O ⟨M,H,I,S⟩);rintro n Q ⟨e,L,Y,T⟩;refine O3 x (aj (U a Q e L _ Y (i n e L T)) λb s2 hpq=> ?_);obtain⟨J,E,l⟩:=hpq;cases b with
 |true =>
  obtain⟨N,y,l⟩:=l;refine O3 x (aj (R a s2 e J _ E l) λf s3 q3=> ?_);cases f with
  |next =>obtain⟨d,j,m,p⟩:=q3;obtain⟨r,o,q⟩:=y d j p;exact⟨r,o,d,j,m,q⟩
  |cont =>obtain⟨d,j,m,p⟩:=q3;obtain⟨r,o,q⟩:=y d j p;exact⟨r,o,d,j,m,q⟩
  |brk=>exact q3|ret v=>exact q3
 |false =>exact Px ⟨e,J,E,l⟩
end
structure It where
 go:Nat->Hp->Prop
 yld:Nat->Hp->V->Hp->Prop
 stop:Nat->Hp->Prop
def jt(X:Cx)(a:List (Addr×Obj))(H:Hp)(b:Addr):Prop :=
 H b=none/\b≠X.env.locals/\b∉X.fs/\(b∈X.ex\/X.s₀.heap.objs.size<=b)/\(∀x c,X.env.cells.lookup x=some c->c≠b)/\∀p∈X.pn++a,p.1≠b
theorem Inv.fpOk(I:Inv X a h H s)(d:s.heap.objs.size<=b)(g:f b=none):jt X a f b:=by
 refine⟨g,Ni (NH I.lt d),I.nofs d,.inr (M8 I.sz d),λx c e z=> ?_,λp hp z=> ?_⟩
 .obtain⟨v,q⟩:=I.cell x c e
  exact absurd (NH q.lt (by rwa[z])) (OK _)
 .exact absurd (NH (Mi (I.pin p hp).1) (by rwa[z])) (OK _)
structure nF(P:Program)(w:World)(K:W.Frag)(tg:Expr)(J:It)(fp:List Addr)(it:Addr)(tn:Nat->Heap->Prop):Prop where
 mem:it∈fp
 obj:∀i h,tn i h->∀b∈fp,∃o,h.get? b=some o/\∀v,o.data≠.cell v
 keep:∀i h h',tn i h->(∀b∈fp,∀o,h.get? b=some o->h'.get? b=some o)->tn i h'
 item:∀(X:Cx),X.prog=P->X.w=w->X.K=K->X.calm=true->∀(i:Nat)(pins:List (Addr×Obj))(s:Shared)(σ:St)(H:Hp)(E:Value->Shared->Prop),Inv X pins σ H s->(∀b∈fp,jt X pins H b)->tn i s.heap->J.go i H ->
  wpAny (model P w) X.A (pyNext (.ref it)) (fun r s1=>∃u,r=some u /\
   wpAny (model P w) X.A (letOwnedTupleGo tg (.ref it) u) (fun _ s2=>∃x H',Inv X pins σ H' s2/\RelV x u/\J.yld i H x H' /\tn (i+1) s2.heap/\∀b∈fp,H' b=none) E s1) E s
 done:∀(X:Cx),X.prog=P->X.w=w->X.K=K->X.calm=true->∀(i:Nat)(pins:List (Addr×Obj))(s:Shared)(σ:St)(H:Hp)(E:Value->Shared->Prop),Inv X pins σ H s->(∀b∈fp,jt X pins H b)->tn i s.heap->J.stop i H ->
  wpAny (model P w) X.A (pyNext (.ref it)) (fun r s1=>r=none/\Inv X pins σ H s1) E s
 self:∀(A:Around)(i:Nat)(s:Shared)(Q:Value->Shared->Prop)(E:Value->Shared->Prop),tn i s.heap->Q (.ref it) s->wpAny (model P w) A (pyIter (.ref it)) Q E s
abbrev TI:=St->Hp->(It->Hp->Prop)->Prop
def PIE(X:Cx)(a:List (Addr×Obj))(i:St)(j:Expr)(R:It->Hp->Prop)(d:Value)(f:Shared):Prop :=
 ∃(e:Addr)(g:List Addr)(h:Nat->Heap->Prop)(J:It)(c :Hp),d=.ref e/\Inv X a i c f/\nF X.prog X.w X.K j J g e h/\h 0 f.heap/\(∀b∈g,jt X a c b)/\R J c
def PI(X:Cx)(e b:Expr)(d:TI):Prop :=
 ∀(a:List (Addr×Obj))(s:Shared)(c:St)(H:Hp)(R:It->Hp->Prop),Inv X a c H s->d c H R -> wpAny (model X.prog X.w) X.A (eval b X.env) (λv s1=>wpAny (model X.prog X.w) X.A (pyIter v) (PIE X a c e R) X.xe s1) X.xe s
theorem oA{A:Around}{s:Shared}{o:Obj}{n:String}(ho:s.heap.get? it=some o)(hc:o.cls=.type n)(hd:o.data=.fields vs)
    (hn:["enumerate","zip","dict_itemiterator","dict_reverseitemiterator","odict_iterator","itertools.zip_longest","itertools.pairwise"].contains n=false) (hQ:Q () s):wpAny M A (letOwnedTupleGo tg (.ref it) u) Q E s:=by
  cases tg<;>first
    | exact MV hQ
    | (cases u<;>first
        | exact MV hQ
        | (refine MS (wpAny_load ho ?_)
           rw[hc,hd];show wpAny M A (if(["enumerate","zip","dict_itemiterator","dict_reverseitemiterator","odict_iterator","itertools.zip_longest","itertools.pairwise"].contains n&&vs[0]? ==some (rawInt _))=true then _ else _) Q E s;rw[MY (by intro h;rw[hn,Pt]at h;cases h)];exact MV hQ))
def Jq(K:W.Frag)(a:Addr):It :=
 ⟨λi H=>∃b x,bH K H a b/\b[i]? =some x,λi H x H' =>H' =H/\∀b,bH K H a b->b[i]? =some x,λi H=>∃b,bH K H a b/\b.length<=i⟩
def Jp(K:W.Frag)(a:Addr):It :=
 ⟨λi H=>∃b x,bT K H a b/\b[i]? =some x,λi H x H' =>H' =H/\∀b,bT K H a b->b[i]? =some x,λi H=>∃b,bT K H a b/\b.length<=i⟩
def GN(a:Int)(n:Nat):It:=⟨λi _=>i<n,λi H x H' =>H' =H/\x=.int (a+i),λi _=>n<=i⟩
theorem yO{P:Program}{w:World}{K:W.Frag}{U:Expr}(a j:Addr):nF P w K U (Jq K a) [j] j (λi h=>h.IsListIter j a i) where
 mem:=by simp
 obj:=λi h f b hb=>by
  have e:b=j:=by simpa using hb
  subst e;obtain⟨o,e,c,d⟩:=f;exact⟨o,e,λv z=>by rw[d]at z;cases z⟩
 keep:=λi h h' f k=>f.at λo e=>k j (by simp) o e
 item:=by intro X L A q Q i g s O H E I m f M;subst L A q;obtain⟨S,x,l,C⟩:=M;obtain⟨D,y,p,Z⟩:=I.list l;obtain⟨u,T,R⟩:=y.get C;obtain⟨N,J,f2,v,r,n⟩:=m j (by simp);refine wpAny_pyNext_list_item f p.isList (by simpa using T) λh' st' sb=> ?_;obtain⟨o,e,c,d⟩:=id st';exact⟨u,rfl,oA e c d (by decide) ⟨x,H,I.turned (t' :=s.toks) (λb o hb e=>(sb.2 b hb).trans e) N J v r n,R,⟨rfl,λys hy=>by rwa[I.list_inj hy l]⟩,st',λb hb=>(m b hb).1⟩⟩
 done:=by intro X L A q Q i g s O H E I m f M;subst L A q;obtain⟨S,l,C⟩:=M;obtain⟨D,y,p,Z⟩:=I.list l;obtain⟨N,J,f2,v,r,n⟩:=m j (by simp);have hl:=y.length;exact wpAny_pyNext_list_end (I.ok.hd Q) f p.isList (by simp;omega) λh' eb=>⟨rfl,I.turned (λb o hb e=>eb b o hb e) N J v r n⟩
 self:=λ_ _ _ _ _ f h=>wpAny_pyIter_listiter f h
theorem uZ{P:Program}{w:World}{K:W.Frag}{U:Expr}(a j:Addr):nF P w K U (Jp K a) [j] j (λi h=>h.IsTupleIter j a i) where
 mem:=by simp
 obj:=λi h f b hb=>by
  have e:b=j:=by simpa using hb
  subst e;obtain⟨o,e,c,d⟩:=f;exact⟨o,e,λv z=>by rw[d]at z;cases z⟩
 keep:=λi h h' f k=>f.at λo e=>k j (by simp) o e
 item:=by intro X L C r Q i g s O H E I n f M;subst L C r;obtain⟨S,x,m,D⟩:=M;obtain⟨l,A,p,Z⟩:=I.tuple m;obtain⟨u,T,R⟩:=A.get D;obtain⟨N,J,f2,y,v,q⟩:=n j (by simp);refine wpAny_pyNext_tuple_item f (show s.heap.IsTuple a l.toArray from p) (by simpa using T) λh' st' sb=> ?_;obtain⟨o,e,c,d⟩:=id st';exact⟨u,rfl,oA e c d (by decide) ⟨x,H,I.turned (t' :=s.toks) (λb o hb e=>(sb.2 b hb).trans e) N J y v q,R,⟨rfl,λys hy=>by rwa[I.tuple_inj hy m]⟩,st',λb hb=>(n b hb).1⟩⟩
 done:=by intro X L C r Q i g s O H E I n f M;subst L C r;obtain⟨S,m,D⟩:=M;obtain⟨l,A,p,Z⟩:=I.tuple m;obtain⟨N,J,f2,y,v,q⟩:=n j (by simp);have hl:=A.length;exact wpAny_pyNext_tuple_end (I.ok.hd Q) f (show s.heap.IsTuple a l.toArray from p) (by simp;omega) λh' eb=>⟨rfl,I.turned (λb o hb e=>eb b o hb e) N J y v q⟩
 self:=λ_ _ _ _ _ f h=>wpAny_pyIter_tupleiter f h
theorem ub{P:Program}{w:World}{K:PySem.W.Frag}{J:Expr}(d:Addr)(f:Int)(n:Nat):nF P w K J (GN f n) [d] d (λi h=>IsRangeIter h d (f+(i:Nat)*1) ((n:Int)-(i:Nat)) 1) where
 mem:=by simp
 obj:=λi h a b hb=>by
  have e:b=d:=by simpa using hb
  subst e;exact⟨_,a,λv z=>by have D :=z;cases D⟩
 keep:=λi h h' a k=>k d (by simp) _ a
 item:=by intro X x q l r i c s C H E I g a y;subst x q l;obtain⟨A,u,M,p,m,j⟩:=g d (by simp);refine (Walks.range (prog:=X.prog) (w:=X.w) (I.ok.hd r) d f 1 n).item i s _ _ y a λv h' tk hv st' kk=> ?_;obtain⟨t,rfl⟩:=hv;have L:Inv X c C H {s with heap:=h',toks:=tk}:=I.turned (λb o hb e=>kk b o (by simpa using hb) e) A u p m j;refine⟨_,rfl,oA st' rfl rfl (by decide) ⟨.int (f+i),H,L,⟨t,?_⟩,⟨rfl,rfl⟩,st',λb hb=>(g b hb).1⟩⟩;rw[Int.mul_one]
 done:=by intro X x q l r i c s C H E I g a y;obtain⟨A,u,M,p,m,j⟩:=g d (by simp);exact wpAny_pyNext_range_end (I.ok.hd r) a (by have:n<=i:=y;omega) λh' eb=>⟨rfl,I.turned (λb o hb e=>eb b o hb e) A u p m j⟩
 self:=λ_ _ _ _ _ a h=>wpAny_pyIter_rangeiter a h
section
variable{X:Cx}{tg:Expr}
def LW(K:W.Frag)(b:TE):TI:=λσ H R=>b σ H λx H1=>∃a,x=.ref a/\(∃c,bH K H1 a c)/\R (Jq K a) H1
def iTup(K:W.Frag)(b:TE):TI:=λσ H R=>b σ H λx H1=>∃a,x=.ref a/\(∃c,bT K H1 a c)/\R (Jp K a) H1
theorem iA(m:PE X l f):PI X tg l (LW X.K f):=by
 intro c s g H R I h;refine aj (m c s g H _ I h) λv s1 hpq=> ?_;obtain⟨x,u,d,i,a,e,⟨v,j⟩,q⟩:=hpq;subst e;cases i;obtain⟨r,w,p,y⟩:=d.list j;refine P5 p.isList ?_;refine⟨s1.heap.objs.size,[s1.heap.objs.size],_,_,u,rfl,d.kept λb o e=>MU _ e,yO a _,⟨_,Mg _ rfl,rfl,rfl⟩,λb hb=> ?_,q⟩;have e:b=s1.heap.objs.size:=by simpa using hb
 subst e;exact d.fpOk (Mc _) (d.hok.fresh (Mc _))
theorem uu(n:PE X l g):PI X tg l (iTup X.K g):=by
 intro c s i H R I h;refine aj (n c s i H _ I h) λv s1 hpq=> ?_;obtain⟨x,u,d,j,a,e,⟨v,m⟩,q⟩:=hpq;subst e;cases j;obtain⟨f,w,p,y⟩:=d.tuple m;refine P2 (show s1.heap.IsTuple a f.toArray from p) ?_;refine⟨s1.heap.objs.size,[s1.heap.objs.size],_,_,u,rfl,d.kept λb o e=>MU _ e,uZ a _,⟨_,Mg _ rfl,rfl,rfl⟩,λb hb=> ?_,q⟩;have e:b=s1.heap.objs.size:=by simpa using hb
 subst e;exact d.fpOk (Mc _) (d.hok.fresh (Mc _))
theorem rO{t:Tok}(I:Inv X d f H s)(j: -(2^62)<=a)(i:a<2^62)(p: -(2^62)<=c)(m:c<2^62)
  (q:R (GN a (c-a).toNat) H):wpAny (model X.prog X.w) X.A (pyIter (.ref s.heap.objs.size)) (PIE X d f tg R) E {s with heap:=s.heap.push {cls:=.type "range",data:=.fields #[.int a t,.int c u,.int 1 v]},toks:=g}:=by
 refine wpAny_pyIter_range (IsRange.new ..) (small_one j i p m) ?_;have h:Inv X d f H {s with heap:=s.heap.push {cls:=.type "range",data:=.fields #[.int a t,.int c u,.int 1 v]},toks:=g}:=I.kept λb o e=>MU _ e
 refine⟨(s.heap.push {cls:=.type "range",data:=.fields #[.int a t,.int c u,.int 1 v]}).objs.size,[(s.heap.push {cls:=.type "range",data:=.fields #[.int a t,.int c u,.int 1 v]}).objs.size],_,_,H,rfl,h.kept λb o e=>MU _ e,ub _ a (c-a).toNat,?_,λb hb=> ?_,q⟩
 .have l:a+((0:Nat):Int)*1=a:=by simp
  have n:(((c-a).toNat:Nat):Int)-((0:Nat):Int)=Builtin.Range.rangeSize a c 1:=by rw[rangeSize_one];split<;>omega
  rw[l,n];exact Mg _ rfl
 .have e:b=(s.heap.push {cls:=.type "range",data:=.fields #[.int a t,.int c u,.int 1 v]}).objs.size:=by simpa using hb
  subst e;exact h.fpOk (Mc _) (h.hok.fresh (Mc _))
def LR(a:TA):TI:=λσ H R=>a σ H λvs H1=>∃j:Int,vs=[.int j]/\ -(2^62)<=j/\j<2^62/\R (GN 0 j.toNat) H1
def LQ(a:TA):TI:=λσ H R=>a σ H λvs H1=>∃i j:Int,vs=[.int i,.int j]/\(-(2^62)<=i/\i<2^62/\ -(2^62)<=j/\j<2^62)/\R (GN i (j-i).toNat) H1
theorem nY(o:Gl X "range")(g:X.mg "range"=none)(l:PA X [a] d)(n:starEach [a] X.env=[(false,eval a X.env)]:=by rfl):PI X tg (.Call (.Name "range" p) [a] [] pos) (LR d):=by
 intro b s f H R I h;refine Call_ (dB I o g boot_range (NX (aj (l pos b s f H _ I h) λus s1 ⟨vs,H1,I1,r1,c⟩=> ?_) n rfl));obtain⟨j,e,c,i,q⟩:=c;subst e;cases r1 with
 |cons r m =>cases m;obtain⟨t,rfl⟩:=r;exact call_range_1 (rO I1 (by omega) (by omega) c i (by simpa using q))
theorem yi(z:Gl X "range")(n:X.mg "range"=none)(w:PA X [a,b] l)(x:starEach [a,b] X.env=[(false,eval a X.env),(false,eval b X.env)]:=by rfl)(c:starEach [b] X.env=[(false,eval b X.env)]:=by rfl) :
  PI X tg (.Call (.Name "range" p) [a,b] [] pos) (LQ l):=by
 intro d s m H R I h;refine Call_ (dB I z n boot_range (NX (aj (w pos d s m H _ I h) λus s1 ⟨vs,H1,I1,r1,g⟩=> ?_) (by rw[x,c]) (by rw[c];rfl)));obtain⟨i,j,e,⟨g,o,y,u⟩,q⟩:=g;subst e;cases r1 with
 |cons r f =>
  cases f with
  |cons v f =>cases f;obtain⟨t,rfl⟩:=r;obtain⟨A,rfl⟩:=v;exact call_range_2 (rO I1 g o y u q)
def tFor(f:TI)(g:TG)(e:TS):TS:=λD a H=>f a H λJ H1=>∃W:Nat->Nat->St->Hp->Prop,(∃m,W 0 m a H1)/\∀i m a H,W i m a H -> (J.stop i H/\D.nx a H)\/(J.go i H/\∃N:St->Hp->Prop,(∀c b,N c b ->∃d,d <m/\W (i+1) d c b)/\∀x b,J.yld i H x b ->g x a b λσ2 H2=>e {D with nx:=N,ct:=N,bk:=D.nx} σ2 H2)
def lA(a:List Addr)(h:Heap):List (Addr×Obj):=a.filterMap λb=>(h.get? b).map λo=>(b,o)
theorem el{o:Obj}(c:b∈a)(e:h.get? b=some o):(b,o)∈lA a h:=List.mem_filterMap.mpr ⟨b,c,by rw[e];rfl⟩
theorem yk(c:p∈lA a h):p.1∈a/\h.get? p.1=some p.2:=by
 obtain⟨b,f,e⟩:=List.mem_filterMap.mp c;cases q:h.get? b with
 |none=>rw[q]at e;cases e|some o =>rw[q]at e;have d :=Mx e;subst d;exact⟨f,q⟩
theorem Inv.pinned(I:Inv X a f H s)(j:∀b∈c,jt X a H b)(m:∀b∈c,∃o,s.heap.get? b=some o/\∀v,o.data≠.cell v):Inv X (a++lA c s.heap) f H s := I.pins_of λp hp=>(M7.mp hp).elim (λz=>I.pin p (NY _ z)) λz=>by obtain⟨h,e⟩:=yk z;obtain⟨n,l,i,_⟩:=j p.1 h;obtain⟨o,g,d⟩:=m p.1 h;rw[e]at g;cases g;exact⟨e,n,l,i,d⟩
theorem Inv.unpinned(I:Inv X (a++c) b H s):Inv X a b H s:=I.pins_of λp hp=>I.pin p (NY _ (N6 _ hp))
theorem fS{body:List Stmt}(Q:PassesOwn (model X.prog X.w) X.A X.env X.xe)(hc:X.calm=true)(hi:PI X tg y wi)(hg:PG X tg g)(p:qK X body tb)
  (hs:∀x,foldedSetIterable y X.env x=pure x:=by intro _;rfl):PS X (.For tg y body [] pos) (tFor wi g tb):=by
 intro c s σ H D I h;refine wpAny_For (aj (hi c s σ H _ I h) λv s1 h1=>aj h1 λitv s2 h2=> ?_) hs;obtain⟨it,O,tn,J,H2,e,I2,T,a2,f2,W,⟨m0,w0⟩,S⟩:=h2;subst e;have r:∀{E :Hp},(∀b∈O,E b=none)->∀b∈O,jt X c E b:=λhn b p=>⟨hn b p,(f2 b p).2⟩;refine codeAny_forLoop_any (λn s' =>∃i z E,Inv X c z E s' /\tn i s'.heap/\(∀b∈O,E b=none)/\W i n z E) ?_ m0 ⟨0,σ,H2,I2,a2,λb p=>(f2 b p).1,w0⟩;rintro n s3 ⟨i,C,H3,I3,U,R,w3⟩
 rcases S i n C H3 w3 with⟨Y,qn⟩|⟨go,N,hN,a0⟩
 .refine O3 Q (aj (T.done X rfl rfl rfl hc i c s3 C H3 X.xe I3 (r R) U Y) λr s4 hpq=> ?_)
  obtain⟨hr,I4⟩:=hpq;subst hr;exact Px ⟨C,H3,I4,qn⟩
 .refine O3 Q (aj (T.item X rfl rfl rfl hc i c s3 C H3 X.xe I3 (r R) U go) λr s4 hpq=> ?_)
  obtain⟨u,hr,h4⟩:=hpq;subst hr;refine O3 Q (aj h4 λ_ s5 hpq=> ?_);obtain⟨x,H5,I5,r5,y5,M,a4⟩:=hpq;have a1 :=I5.pinned (r a4) (T.obj _ _ M);refine O3 Q (aj (hg _ s5 C H5 x u _ a1 r5 (a0 x H5 y5)) λ_ s6 hpq=> ?_);obtain⟨a3,H6,I6,q6⟩:=hpq;refine O3 Q (aj (p _ s6 a3 H6 _ I6 q6) λf s7 L=> ?_);have l:∀{a:St}{j:Hp},Inv X (c++lA O s5.heap) a j s7->N a j->∃m,m<n/\∃i z E,Inv X c z E s7/\tn i s7.heap/\(∀b∈O,E b=none)/\W i m z E :=λ{a j} q Z=>by obtain⟨m',hm,w7⟩:=hN a j Z;refine⟨m',hm,i+1,a,j,q.unpinned,T.keep _ _ _ M λb p o e=>(q.pin (b,o) (NY _ (NY _ (el p e)))).1,λb p=> ?_,w7⟩;obtain⟨o,e,d⟩:=T.obj _ _ M b p;exact(q.pin (b,o) (NY _ (NY _ (el p e)))).2.1
  cases f with
  |next=>obtain⟨a,j,q,Z⟩:=L;exact l q Z
  |cont=>obtain⟨a,j,q,Z⟩:=L;exact l q Z
  |brk=>obtain⟨a,j,q,L⟩:=L;exact⟨a,j,q.unpinned,L⟩
  |ret v=>obtain⟨x7,a,j,q,r7,L⟩:=L;exact⟨x7,a,j,q.unpinned,r7,L⟩
end
theorem B4{K:PySem.W.Frag}{a:Addr}{xs:List V}{g:TG}{j:TS}{D:cE}{b:St}{H:Hp}(c:Nat->St->Hp->Prop)(n:c 0 b H)(o:∀i b H,i<=xs.length->c i b H->bH K H a xs)
  (s:∀i x b H,xs[i]? =some x->c i b H->g x b H λσ2 H2=>j {D with nx:=c (i+1),ct:=c (i+1),bk:=D.nx} σ2 H2) (r:∀b H,c xs.length b H->D.nx b H) :
  ∃W:Nat->Nat->St->Hp->Prop,(∃m,W 0 m b H)/\∀i m b H,W i m b H -> ((Jq K a).stop i H/\D.nx b H)\/((Jq K a).go i H/\∃N:St->Hp->Prop,(∀f d,N f d ->∃l,l <m/\W (i+1) l f d)/\∀x d,(Jq K a).yld i H x d ->g x b d λσ2 H2=>j {D with nx:=N,ct:=N,bk:=D.nx} σ2 H2):=by
 refine⟨λi m b H=>m=xs.length-i/\i<=xs.length/\c i b H,⟨xs.length,by simp,M6 _,n⟩,?_⟩;rintro i m b H ⟨rfl,u,p⟩;have q:=o i b H u p
 by_cases h:i<xs.length
 .refine .inr ⟨⟨xs,xs[i],q,by simp[h]⟩,c (i+1),λσ' d p' =>⟨xs.length-(i+1),by omega,rfl,h,p'⟩,λx d y=> ?_⟩
  obtain⟨e,y⟩:=y;subst e;exact s i x b _ (y xs q) p
 .have e:i=xs.length:=by omega
  subst e;exact .inl ⟨⟨xs,q,Mc _⟩,r b H p⟩
theorem Eu{K:PySem.W.Frag}{a:Addr}{xs:List V}{g:TG}{j:TS}{D:cE}{b:St}{H:Hp}(c:Nat->St->Hp->Prop)(n:c 0 b H)(o:∀i b H,i<=xs.length->c i b H->bT K H a xs)
  (s:∀i x b H,xs[i]? =some x->c i b H->g x b H λσ2 H2=>j {D with nx:=c (i+1),ct:=c (i+1),bk:=D.nx} σ2 H2) (r:∀b H,c xs.length b H->D.nx b H) :
  ∃W:Nat->Nat->St->Hp->Prop,(∃m,W 0 m b H)/\∀i m b H,W i m b H -> ((Jp K a).stop i H/\D.nx b H)\/((Jp K a).go i H/\∃N:St->Hp->Prop,(∀f d,N f d ->∃l,l <m/\W (i+1) l f d)/\∀x d,(Jp K a).yld i H x d ->g x b d λσ2 H2=>j {D with nx:=N,ct:=N,bk:=D.nx} σ2 H2):=by
 refine⟨λi m b H=>m=xs.length-i/\i<=xs.length/\c i b H,⟨xs.length,by simp,M6 _,n⟩,?_⟩;rintro i m b H ⟨rfl,u,p⟩;have q:=o i b H u p
 by_cases h:i<xs.length
 .refine .inr ⟨⟨xs,xs[i],q,by simp[h]⟩,c (i+1),λσ' d p' =>⟨xs.length-(i+1),by omega,rfl,h,p'⟩,λx d y=> ?_⟩
  obtain⟨e,y⟩:=y;subst e;exact s i x b _ (y xs q) p
 .have e:i=xs.length:=by omega
  subst e;exact .inl ⟨⟨xs,q,Mc _⟩,r b H p⟩
theorem zD{h:Int}{n:Nat}{g:TG}{j:TS}{D:cE}{a:St}{H:Hp}(c:Nat->St->Hp->Prop)(o:c 0 a H)
  (r:∀i a H,i<n->c i a H->g (.int (h+i)) a H λσ2 H2=>j {D with nx:=c (i+1),ct:=c (i+1),bk:=D.nx} σ2 H2) (q:∀a H,c n a H->D.nx a H) :
  ∃W:Nat->Nat->St->Hp->Prop,(∃m,W 0 m a H)/\∀i m a H,W i m a H -> ((GN h n).stop i H/\D.nx a H)\/((GN h n).go i H/\∃N:St->Hp->Prop,(∀f b,N f b ->∃l,l <m/\W (i+1) l f b)/\∀x b,(GN h n).yld i H x b ->g x a b λσ2 H2=>j {D with nx:=N,ct:=N,bk:=D.nx} σ2 H2):=by
 refine⟨λi m a H=>m=n-i/\i<=n/\c i a H,⟨n,by simp,M6 _,o⟩,?_⟩;rintro i m a H ⟨rfl,s,p⟩
 by_cases d:i<n
 .refine .inr ⟨d,c (i+1),λσ' b p' =>⟨n-(i+1),by omega,rfl,d,p'⟩,λx b y=> ?_⟩
  obtain⟨e,y⟩:=y;subst e y;exact r i a _ d p
 .have e:i=n:=by omega
  subst e;exact .inl ⟨Mc _,q a H p⟩
abbrev R2:=V->V->Hp->VK->Prop
def dJ(X:Cx)(f:Value->Value->Sem Value)(r:R2):Prop :=
 ∀(a:List (Addr×Obj))(s:Shared)(b:St)(H:Hp)(x y:V)(v u:Value)(Q:VK),Inv X a b H s->RelV x v->RelV y u->r x y H Q -> wpAny (model X.prog X.w) X.A (f v u) (EP X a b Q) X.xe s
def UnR(X:Cx)(f:Value->Sem Value)(r:V->Hp->VK->Prop):Prop :=
 ∀(a:List (Addr×Obj))(s:Shared)(b:St)(H:Hp)(x:V)(v:Value)(Q:VK),Inv X a b H s->RelV x v->r x H Q -> wpAny (model X.prog X.w) X.A (f v) (EP X a b Q) X.xe s
def bA(X:Cx)(f:Value)(r:List V->Hp->VK->Prop):Prop :=
 ∀(a:List (Addr×Obj))(s:Shared)(c:St)(H:Hp)(d:List V)(b:List Value)(Q:VK),Inv X a c H s->aM d b->r d H Q -> wpAny (model X.prog X.w) X.A (call f b) (EP X a c Q) X.xe s
def TruR(X:Cx)(r:V->Hp->(Bool->Hp->Prop)->Prop):Prop :=
 ∀(a:List (Addr×Obj))(s:Shared)(b:St)(H:Hp)(x:V)(v:Value)(Q:Bool->Hp->Prop),Inv X a b H s->RelV x v->r x H Q -> wpAny (model X.prog X.w) X.A (truthy v) (TP X a b Q) X.xe s
def tOp(r:R2)(a b:TE):TE:=λσ H Q=>a σ H λx H1=>b σ H1 λy H2=>r x y H2 Q
def tUn(r:V->Hp->VK->Prop)(a:TE):TE:=λσ H Q=>a σ H λx H1=>r x H1 Q
def rI(C:Int->Int->Prop)(g:Int->Int->V):R2:=λx y H Q=>∃i j,x=.int i/\y=.int j/\C i j/\Q (g i j) H
def Ar(g:Int->Int->V):R2:=λx y H Q=>∃i j,x=.int i/\y=.int j/\Q (g i j) H
def rU(g:Int->V):V->Hp->VK->Prop:=λx H Q=>∃i,x=.int i/\Q (g i) H
section
variable{X:Cx}{a b c:Expr}{ta tb tc:TE}{pos:Pos}
theorem JU(p:PE X a ta)(n:PE X b tb){s:Shared}{e:St}{H:Hp}{R:V->V->Hp->Prop}(I:Inv X d e H s)
  (h:ta e H λx j=>tb e j λy g=>R x y g) {Q:Value->Shared->Prop} {f:Value->Value->Sem Value}
  (r:∀v u i x y g,Inv X d e g i->RelV x v->RelV y u->R x y g->wpAny (model X.prog X.w) X.A (f v u) Q X.xe i) :
  wpAny (model X.prog X.w) X.A (eval a X.env) (λv s₁=>wpAny (model X.prog X.w) X.A (eval b X.env) (λu s₂=>wpAny (model X.prog X.w) X.A (f v u) Q X.xe s₂) X.xe s₁) X.xe s:=by
 refine aj (p d s e H _ I h) λv s1 hpq=> ?_;obtain⟨x,j,q,l,z⟩:=hpq;refine aj (n d s1 e j _ q z) λu i hpq=> ?_;obtain⟨y,g,o,C,m⟩:=hpq;exact r v u i x y g o l C m
theorem fC(j:dJ X (binaryOp e) r)(i:PE X a ta)(f:PE X b tb):PE X (.BinOp a e b pos) (tOp r ta tb):=by intro d s g H Q I h;exact wpAny_BinOp (JU i f I h λv u s2 x y H2 I2 rx ry q=>j d s2 g H2 x y v u Q I2 rx ry q)
theorem F6(i:UnR X (unaryOp e) r)(g:PE X a ta):PE X (.UnaryOp e a pos) (tUn r ta):=by intro d s f H Q I h;exact UnaryOp_ (aj (g d s f H _ I h) λv s1 ⟨x,H1,I1,r1,q1⟩=>i d s1 f H1 x v Q I1 r1 q1)
theorem Jx{g:Int->Int->Int}
  (d:∀(i j:Int)(t u:Tok)(s:Shared)(Q:Value->Shared->Prop)(E:Value->Shared->Prop),C i j->Q (.int (g i j) s.toks) {s with toks:=s.toks+1}->wpAny (model X.prog X.w) X.A (f (.int i t) (.int j u)) Q E s) :
  dJ X f (rI C λi j=>.int (g i j)):=by
 intro e s p H x y v u Q I l o h;obtain⟨i,j,rfl,rfl,n,q⟩:=h;obtain⟨t,rfl⟩:=l;obtain⟨m,rfl⟩:=o;exact d i j t m s _ _ n ⟨.int (g i j),H,I.tok _,⟨_,rfl⟩,q⟩
theorem EE{g:Int->Int->Int}
  (d:∀(i j:Int)(t u:Tok)(s:Shared)(Q:Value->Shared->Prop)(E:Value->Shared->Prop),Q (.int (g i j) s.toks) {s with toks:=s.toks+1}->wpAny (model X.prog X.w) X.A (f (.int i t) (.int j u)) Q E s) :
  dJ X f (Ar λi j=>.int (g i j)):=by
 intro e s o H x y v u Q I l n h;obtain⟨i,j,rfl,rfl,q⟩:=h;obtain⟨t,rfl⟩:=l;obtain⟨m,rfl⟩:=n;exact d i j t m s _ _ ⟨.int (g i j),H,I.tok _,⟨_,rfl⟩,q⟩
theorem EF{g:Int->Int->Bool}
  (d:∀(i j:Int)(t u:Tok)(s:Shared)(Q:Value->Shared->Prop)(E:Value->Shared->Prop),Q (.bool (g i j)) s->wpAny (model X.prog X.w) X.A (f (.int i t) (.int j u)) Q E s) :
  dJ X f (Ar λi j=>.bl (g i j)):=by
 intro e s o H x y v u Q I l n h;obtain⟨i,j,rfl,rfl,q⟩:=h;obtain⟨t,rfl⟩:=l;obtain⟨m,rfl⟩:=n;exact d i j t m s _ _ ⟨.bl (g i j),H,I,rfl,q⟩
def MP(i j:Int):Prop:=0<=j/\j<=1000000/\i.natAbs<2^64
def Jt(i j:Int):Prop:=(-(2^64)<i/\i<2^64)\/(-(2^64)<j/\j<2^64)
theorem Jt.ok(h:Jt i j):IntMulOk i j:=by
 rcases h with⟨e,d⟩|⟨e,d⟩
 .exact .of_left (intBits_le_64 e d)
 .exact .of_right (intBits_le_64 e d)
theorem lF:dJ X (binaryOp .Add) (Ar λi j=>.int (i+j)):=EE λ_ _ _ _ _ _ _ q=>add_int q
theorem Hc:dJ X (binaryOp .Sub) (Ar λi j=>.int (i-j)):=EE λ_ _ _ _ _ _ _ q=>sub_int q
theorem Hh:dJ X (binaryOp .Mult) (rI Jt λi j=>.int (i*j)):=Jx λ_ _ _ _ _ _ _ hc q=>mul_int q hc.ok
theorem Hk:dJ X (binaryOp .Mod) (rI (λ_ j=>0<j) λi j=>.int (i%j)):=Jx λi j _ _ _ _ _ hc q=>by have d:=hc;exact mod_int' (by omega) (by rwa[Int.fmod_eq_emod_of_nonneg i (by omega)])
theorem Hf:dJ X (binaryOp .Pow) (rI MP λi j=>.int (i^j.toNat)):=Jx λ_ _ _ _ _ _ _ hc q=>pow_int_small hc.1 hc.2.1 hc.2.2 q
theorem Hd:dJ X (binaryOp .LShift) (rI MP λi j=>.int (i*2^j.toNat)):=Jx λ_ _ _ _ _ _ _ hc q=>lshift_int_small hc.1 hc.2.1 hc.2.2 q
theorem BE:dJ X (binaryOp .BitAnd) (Ar λi j=>.int (Builtin.bitAnd i j)):=EE λ_ _ _ _ _ _ _ q=>and_int q
theorem GB:dJ X (binaryOp .BitOr) (Ar λi j=>.int (Builtin.bitOr i j)):=EE λ_ _ _ _ _ _ _ q=>or_int q
theorem unI{g:Int->Int}
  (d:∀(i:Int)(t:Tok)(s:Shared)(Q:Value->Shared->Prop)(E:Value->Shared->Prop),Q (.int (g i) s.toks) {s with toks:=s.toks+1}->wpAny (model X.prog X.w) X.A (f (.int i t)) Q E s) :
  UnR X f (rU λi=>.int (g i)):=by
 intro e s l H x v Q I j h;obtain⟨i,rfl,q⟩:=h;obtain⟨t,rfl⟩:=j;exact d i t s _ _ ⟨.int (g i),H,I.tok _,⟨_,rfl⟩,q⟩
theorem AE:UnR X (unaryOp .USub) (rU λi=>.int (-i)):=unI λ_ _ _ _ _ q=>neg_int q
end
def Gr:V->V->Bool
 | .non,.non=>true| .non,.int _=>true| .int _,.non=>true| .non,.bl _=>true| .bl _,.non=>true| .non,.str _=>true| .str _,.non=>true
 | .int _,.int _=>true| .bl _,.bl _=>true| .str _,.str _=>true| .byt _,.byt _=>true
 | .int _,.str _=>true| .str _,.int _=>true| .bl _,.str _=>true| .str _,.bl _=>true
 |_,_=>false
def rEq:R2:=λx y H Q=>Gr x y=true/\Q (.bl (decide (x=y))) H
def rNe:R2:=λx y H Q=>Gr x y=true/\Q (.bl (!decide (x=y))) H
theorem xf:decide (V.int i=V.int j)=(i==j):=by rw[NU];simp
theorem CO:decide (V.bl i=V.bl j)=(i==j):=by rw[NU];simp
theorem xa:decide (V.str i=V.str j)=(i==j):=by rw[NU];simp
theorem xg:decide (V.byt i=V.byt j)=(i.toList==j.toList):=by rw[NU];cases i;cases j;simp
section
variable{X:Cx}{a b c:Expr}{ta tb tc:TE}{pos:Pos}
theorem ac{k:Bool}(I:Inv X d g H s)(q:Q (.bl k) H)(e:k=f):EP X d g Q (.bool f) s:=by subst e;exact⟨.bl k,H,I,rfl,q⟩
theorem wv:dJ X (compareOp .Eq) rEq:=by
 intro l s m H x y v u Q I g d h;obtain⟨f,q⟩:=h;cases x with
 |non =>
  cases g;cases y with
  |non=>cases d;exact PySem.EqNone.eq_none_none (ac I q (by simp))|bl j=>cases d;exact PySem.EqNone.eq_none_bool (ac I q (by simp))|int j=>obtain⟨e,rfl⟩:=d;exact PySem.EqNone.eq_none_int (ac I q (by simp))
  |str j=>obtain⟨e,rfl⟩:=d;exact PySem.EqNone.eq_none_str (ac I q (by simp))
  |_=>exact absurd (show false=true from f) MZ
 |bl i =>
  cases g;cases y with
  |non=>cases d;exact PySem.EqNone.eq_bool_none (ac I q (by simp))|bl j=>cases d;exact eq_bool (ac I q CO)|str j=>obtain⟨e,rfl⟩:=d;exact PySem.EqMixed.eq_bool_str (ac I q (by simp))
  |_=>exact absurd (show false=true from f) MZ
 |int i =>
  obtain⟨t,rfl⟩:=g;cases y with
  |non=>cases d;exact PySem.EqNone.eq_int_none (ac I q (by simp))|int j=>obtain⟨e,rfl⟩:=d;exact eq_int (ac I q xf)
  |str j=>obtain⟨e,rfl⟩:=d;exact PySem.EqMixed.eq_int_str (ac I q (by simp))
  |_=>exact absurd (show false=true from f) MZ
 |str i =>
  obtain⟨t,rfl⟩:=g;cases y with
  |non=>cases d;exact PySem.EqNone.eq_str_none (ac I q (by simp))|bl j=>cases d;exact PySem.EqMixed.eq_str_bool (ac I q (by simp))|int j=>obtain⟨e,rfl⟩:=d;exact PySem.EqMixed.eq_str_int (ac I q (by simp))
  |str j=>obtain⟨e,rfl⟩:=d;exact eq_str (ac I q xa)
  |_=>exact absurd (show false=true from f) MZ
 |byt i =>
  obtain⟨t,rfl⟩:=g;cases y with
  |byt j=>obtain⟨e,rfl⟩:=d;exact W.eq_bytes (ac I q xg)
  |_=>exact absurd (show false=true from f) MZ
 |_=>cases y<;>exact absurd (show false=true from f) MZ
theorem LB:dJ X (compareOp .NotEq) rNe:=by
 intro l s m H x y v u Q I g d h;obtain⟨f,q⟩:=h;cases x with
 |non =>
  cases g;cases y with
  |non=>cases d;exact PySem.EqNone.ne_none_none (ac I q (by simp))|bl j=>cases d;exact PySem.EqNone.ne_none_bool (ac I q (by simp))|int j=>obtain⟨e,rfl⟩:=d;exact PySem.EqNone.ne_none_int (ac I q (by simp))
  |str j=>obtain⟨e,rfl⟩:=d;exact PySem.EqNone.ne_none_str (ac I q (by simp))
  |_=>exact absurd (show false=true from f) MZ
 |bl i =>
  cases g;cases y with
  |non=>cases d;exact PySem.EqNone.ne_bool_none (ac I q (by simp))|bl j=>cases d;exact ne_bool (ac I q (NG not CO))|str j=>obtain⟨e,rfl⟩:=d;exact PySem.EqMixed.ne_bool_str (ac I q (by simp))
  |_=>exact absurd (show false=true from f) MZ
 |int i =>
  obtain⟨t,rfl⟩:=g;cases y with
  |non=>cases d;exact PySem.EqNone.ne_int_none (ac I q (by simp))|int j=>obtain⟨e,rfl⟩:=d;exact ne_int (ac I q (NG not xf))
  |str j=>obtain⟨e,rfl⟩:=d;exact PySem.EqMixed.ne_int_str (ac I q (by simp))
  |_=>exact absurd (show false=true from f) MZ
 |str i =>
  obtain⟨t,rfl⟩:=g;cases y with
  |non=>cases d;exact PySem.EqNone.ne_str_none (ac I q (by simp))|bl j=>cases d;exact PySem.EqMixed.ne_str_bool (ac I q (by simp))|int j=>obtain⟨e,rfl⟩:=d;exact PySem.EqMixed.ne_str_int (ac I q (by simp))
  |str j=>obtain⟨e,rfl⟩:=d;exact ne_str (ac I q (NG not xa))
  |_=>exact absurd (show false=true from f) MZ
 |byt i =>
  obtain⟨t,rfl⟩:=g;cases y with
  |byt j=>obtain⟨e,rfl⟩:=d;exact W.ne_bytes (ac I q (NG not xg))
  |_=>exact absurd (show false=true from f) MZ
 |_=>cases y<;>exact absurd (show false=true from f) MZ
theorem LC:dJ X (compareOp .Lt) (Ar λi j=>.bl (decide (i<j))):=EF λ_ _ _ _ _ _ _ q=>lt_int q
theorem LD:dJ X (compareOp .LtE) (Ar λi j=>.bl (decide (i<=j))):=EF λ_ _ _ _ _ _ _ q=>le_int q
theorem LF:dJ X (compareOp .Gt) (Ar λi j=>.bl (decide (j<i))):=EF λ_ _ _ _ _ _ _ q=>gt_int q
theorem LG:dJ X (compareOp .GtE) (Ar λi j=>.bl (decide (j<=i))):=EF λ_ _ _ _ _ _ _ q=>ge_int q
theorem BC:dJ X (compareOp .Is) (λx y H Q=>y=.non/\Q (.bl (decide (x=.non))) H):=by
 intro e s g H x y v u Q I d f h;obtain⟨rfl,q⟩:=h;cases f;refine is_none_gen (ac I q ?_)
 cases x<;>first
  |(cases d;rfl)
  |(obtain⟨t,rfl⟩:=d;rfl)
def isObj:HO->Bool
 | .lst _=>true| .ins _ _ _=>true|_=>false
theorem lH(b:Expr)(h:d≠.In:=by decide)(e:d≠.NotIn:=by decide):behindInMarks d b=false:=by
 have f:(d==CmpOp.In)=false:=by cases d<;>first|rfl|exact absurd rfl h
 have g:(d==CmpOp.NotIn)=false:=by cases d<;>first|rfl|exact absurd rfl e
 cases b<;>simp[behindInMarks,f,g]
theorem pE(j:dJ X (compareOp e) r)(i:PE X a ta)(f:PE X b tb)(l:behindInMarks e b=false):PE X (.Compare a [e] [b] pos) (tOp r ta tb):=by intro d s g H Q I h;exact wpAny_Compare1 (JU i f I h λv u s2 x y H2 I2 rx ry q=>j d s2 g H2 x y v u Q I2 rx ry q) l
def F1(t:TE):TT:=λσ H Q=>t σ H λx H' =>∃k,x=.bl k/\Q k H'
theorem hJ(l:dJ X (compareOp g) r)(j:PE X a ta)(i:PE X b tb)(m:behindInMarks g b=false):PT X (.Compare a [g] [b] pos) (F1 (tOp r ta tb)):=by
 intro d s f H Q I h
 refine wpAny_isTrue_Compare1 (aj (j d s f H _ I h) λv s1 ⟨x,H1,I1,r1,q1⟩=>aj (i d s1 f H1 _ I1 q1) λu s2 ⟨y,H2,I2,r2,q2⟩ =>aj (l d s2 f H2 x y v u _ I2 r1 r2 q2) λc s3 ⟨z,H3,I3,r3,k,e,q3⟩=> ?_) m
 subst e;cases r3;exact N1 ⟨H3,I3,q3⟩
def AQ(r g :R2)(f e d:TE):TE:=λσ H Q=>f σ H λx H1=>e σ H1 λy H2=>r x y H2 λz H3=>∃k,z=.bl k /\ (if k=true then d σ H3 λw' H4=>g y w' H4 Q else Q (.bl false) H3)
theorem rq(o:dJ X (compareOp i) r)(j :dJ X (compareOp f) l)(m:PE X a ta)(q:PE X b tb)(n:PE X c tc)
  (p:lastMarks [i,f] [b,c]=false:=by with_unfolding_all rfl):PE X (.Compare a [i,f] [b,c] pos) (AQ r l ta tb tc):=by
 intro d s g H Q I h
 refine Compare_chain (aj (m d s g H _ I h) λv s1 ⟨x,H1,I1,r1,q1⟩=>chain_link (aj (q d s1 g H1 _ I1 q1) λu s2 ⟨y,H2,I2,r2,q2⟩ =>aj (o d s2 g H2 x y v u _ I2 r1 r2 q2) λd s3 ⟨z,H3,I3,r3,k,e,q3⟩=> ?_)) p
 subst e;cases r3;refine N1 ?_;cases k with
 |false=>exact ite_ff ⟨.bl false,H3,I3,rfl,q3⟩|true=>exact ite_tt (chain_last (aj (n d s3 g H3 _ I3 q3) λw' s4 ⟨z',H4,I4,r4,q4⟩=>j d s4 g H4 y z' u w' Q I4 r2 r4 q4))
theorem rR(A:dJ X (compareOp j) r)(i :dJ X (compareOp f) l)(p:PE X a ta)(o:PE X b tb)(w:PE X c tc)
  (n:lastMarks [j,f] [b,c]=false:=by with_unfolding_all rfl):PT X (.Compare a [j,f] [b,c] pos) (F1 (AQ r l ta tb tc)):=by
 intro d s g H Q I h
 refine isTrue_chain (aj (p d s g H _ I h) λv s1 ⟨x,H1,I1,r1,q1⟩=>test_link (aj (o d s1 g H1 _ I1 q1) λu s2 ⟨y,H2,I2,r2,q2⟩ =>aj (A d s2 g H2 x y v u _ I2 r1 r2 q2) λd s3 ⟨z,H3,I3,r3,k,e,q3⟩=> ?_)) n
 subst e;cases r3;refine N1 ?_;cases k with
 |false =>obtain⟨C,q,m⟩:=q3;cases q;exact ite_ff ⟨H3,I3,m⟩
 |true =>refine ite_tt (test_last (aj (w d s3 g H3 _ I3 q3) λw' s4 ⟨z',H4,I4,r4,q4⟩=>aj (i d s4 g H4 y z' u w' _ I4 r2 r4 q4) λd' s5 ⟨z2,H5,I5,r5,k2,e2,q5⟩=> ?_));subst e2;cases r5;exact N1 ⟨H5,I5,q5⟩
def Jh(K:W.Frag)(x:V)(H:Hp)(k:Bool):Prop :=
 match x with
 | .non=>k=false| .bl b=>k=b| .int i=>k=(i !=0)| .str y=>y.length<=sizeLine/\k=((y.length:Int) !=0)| .byt y=>y.size<=sizeLine/\k=((y.size:Int) !=0)| .ref p=>(∃d,bH K H p d/\k= !d.isEmpty)\/(∃d,bT K H p d/\k= !d.isEmpty)\/∃e,H p=some (.dK e)/\k= !e.isEmpty|_=>False
theorem vR{e:Type}{d:List (e×V)}{f:List (e×Value)}(r:KV d f):(!f.isEmpty)= !d.isEmpty:=by cases r<;>rfl
theorem lf(r:aM e d):(!d.toArray.isEmpty)= !e.isEmpty:=by cases r<;>simp
theorem gb:(sizeLine:Nat)<2^63:=by decide
theorem Gb:TruR X (λx H Q=>∃k,Jh X.K x H k/\Q k H):=by
 intro A s J H x v Q I l h;obtain⟨k,e,q⟩:=h;have M:=NR;cases x with
 |non =>cases l;have d :=e;subst d;exact truthy_none ⟨H,I,q⟩
 |bl b =>cases l;have d :=e;subst d;exact N1 ⟨H,I,q⟩
 |int i =>obtain⟨t,rfl⟩:=l;have d :=e;subst d;exact PySem.P.truthy_int ⟨H,I,q⟩
 |str y =>obtain⟨t,rfl⟩:=l;obtain⟨D,d⟩:y.length<=sizeLine/\k=((y.length:Int) !=0):=e;subst d;exact PySem.P.truthy_str (by omega) ⟨H,I.tok _,q⟩
 |byt y =>obtain⟨t,rfl⟩:=l;obtain⟨D,d⟩:y.size<=sizeLine/\k=((y.size:Int) !=0):=e;subst d;exact W.truthy_bytes (by omega) ⟨H,I.tok _,q⟩
 |ref p =>
  cases l;have d :=e
  rcases d with⟨j,n,d⟩|⟨j,n,d⟩|⟨f,n,d⟩
  .subst d
   obtain⟨z,r,u,C⟩:=I.list n;have g:=r.length;exact wpAny_truthy_list u.isList (by simp only[Me];omega) ⟨H,I.tok _,by rwa[lf r]⟩
  .subst d
   obtain⟨z,r,u,C⟩:=I.tuple n;have g:=r.length;exact truthy_tuple u (by simp only[Me];omega) ⟨H,I.tok _,by rwa[lf r]⟩
  .subst d
   obtain⟨C,E,o,r,m⟩:f.length<=sizeLine/\(p==sysModules)=false/\∃o,KV f o/\s.heap.DictOf (aW X.prog X.w) p o:=I.hok p _ n;have g:=Pp r;exact wpAny_truthy_dict E m (by omega) ⟨H,I.tok _,by rwa[vR r]⟩
 |_=>exact(show False from e).elim
theorem Aw(ha:PE X a ta)(he:∀whole,isTrue a X.env whole=(do let v<-whole;standAt a.pos;holding [v] (truthy v))) :
  PT X a (λσ H Q=>ta σ H λx H' =>∃k,Jh X.K x H' k/\Q k H'):=by
 intro pins s σ H Q I h;exact isTrue_plain (aj (ha pins s σ H _ I h) λv s1 ⟨x,H1,I1,r1,q1⟩=>Gb pins s1 σ H1 x v Q I1 r1 q1) (he _)
theorem vA:dJ X (binaryOp .Add) (λx y H Q=>∃i j,x=.str i/\y=.str j/\i.length+j.length<=sizeLine/\Q (.str (i++j)) H):=by intro d s l H x y v u Q I e g h;obtain⟨i,j,rfl,rfl,f,q⟩:=h;obtain⟨t,rfl⟩:=e;obtain⟨m,rfl⟩:=g;exact add_str (λt' tk=>⟨.str (i++j),H,I.tok _,⟨_,rfl⟩,q⟩) f
theorem vals1(r:aM [x] d):∃u,d=[u]/\RelV x u:=by
 cases r with
 |cons f e=>cases e;exact⟨_,rfl,f⟩
theorem vals2(r:aM [x,y] d):∃u e,d=[u,e]/\RelV x u/\RelV y e :=by
 cases r with
 |cons i g =>
  cases g with
  |cons f h=>cases h;exact⟨_,_,rfl,i,f⟩
theorem zM(hc:X.calm=true):bA X (.builtin "max") (λxs H Q=>∃i j,xs=[.int i,.int j]/\Q (.int (if j>i then j else i)) H):=by
 intro pins s σ H xs us Q I r h;obtain⟨i,j,rfl,q⟩:=h;obtain⟨u,w',rfl,⟨t,rfl⟩,⟨t',rfl⟩⟩:=vals2 r;refine max_two_ints (I.ok.hd hc) λh' tk k=>⟨_,H,I.kept k,?_,q⟩
 by_cases hj:j>i;rw[Ma hj,Ma hj];exact⟨_,rfl⟩;rw[MY hj,MY hj];exact⟨_,rfl⟩
theorem zL(hc:X.calm=true):bA X (.builtin "min") (λxs H Q=>∃i j,xs=[.int i,.int j]/\Q (.int (if j<i then j else i)) H):=by
 intro pins s σ H xs us Q I r h;obtain⟨i,j,rfl,q⟩:=h;obtain⟨u,w',rfl,⟨t,rfl⟩,⟨t',rfl⟩⟩:=vals2 r;refine min_two_ints (I.ok.hd hc) λh' tk k=>⟨_,H,I.kept k,?_,q⟩
 by_cases hj:j<i;rw[Ma hj,Ma hj];exact⟨_,rfl⟩;rw[MY hj,MY hj];exact⟨_,rfl⟩
theorem oN:bA X (.type "int") (λxs H Q=>(∃i,xs=[.int i]/\Q (.int i) H)\/∃k,xs=[.bl k]/\Q (.int (if k then 1 else 0)) H):=by
 intro pins s σ H xs us Q I r h
 rcases h with⟨i,rfl,q⟩|⟨k,rfl,q⟩
 .obtain⟨u,rfl,t,rfl⟩:=vals1 r
  exact call_int_int ⟨.int i,H,I,⟨_,rfl⟩,q⟩
 .obtain⟨u,rfl,r1⟩:=vals1 r
  cases r1;exact call_int_bool ⟨.int (if k then 1 else 0),H,I.tok _,⟨_,rfl⟩,q⟩
end
structure Jn(h:Heap)(x dx C:Addr)(mA:Str->Option Value):Prop where
 obj:h.get? x=some (W.instObj C dx)
 ns:h.Ns1 dx mA
 ne:dx≠x
set_option tactic.hygienic true in
theorem nr{h:Heap}(n:h.Ns1 dx mA):∃od,h.get? dx=some od/\∀name,W.lookIn name od=some (mA name):=by
 obtain⟨o,es,ep,ho,hd,hk,_,hm⟩:=n;refine⟨o,ho,λname=> ?_⟩;have e:=hm name;unfold nsFind findBy at e;rw[<- Array.find?_toList]at e;unfold W.lookIn;rw[hd];dsimp only
 split
 .rename_i y q
  rw[q]at e;exact NG some e
 .rename_i q
  rw[q]at e;have a:es.toList.any (·.refKey)=false:=by rw[List.any_eq_false];intro y hy;obtain⟨z,t,hkey⟩:=hk y (Array.mem_toList_iff.mp hy);simp[DictEntry.refKey,hkey]
  have a' :¬es.toList.any (·.refKey)=true:=by rw[a];exact MZ
  rw[MY a'];exact NG some e
theorem Jn.look(I:Jn h x c C d):∃b,W.InstAt h x (W.instObj C c) C (some b)/\∀a,W.lookIn a b=some (d a) :=
 let⟨b,ho,hl⟩:=nr I.ns
 ⟨b,⟨I.obj,rfl,rfl,ho⟩,hl⟩
theorem jr.some_of{v:V}{o:Option Value}(r:jr (some v) o):∃u,o=some u/\RelV v u:=by
 cases o with
 |none=>exact(show False from r).elim|some u=>exact⟨u,rfl,r⟩
section
variable{P:Program}{w:World}{H H' :Hp}{h h' :Heap}{a C dx:Addr}{fs fs' :List (Str×V)}
theorem Eh(c:eI P w H h)(e:H a=some (.ins C dx fs)):∃b,Jn h a dx C b/\(∀f,jr (fs.lookup f) (b f))/\PySem.Within b (fs.map (·.1))/\fs.length<=1000/\H dx=some (.own a):=by obtain⟨d,z,g,i,b,n,r,q⟩:=(show ah P w H h a (.ins C dx fs)from c a _ e);exact⟨b,⟨i,n,g⟩,r,q,z,d⟩
end
structure Cls(K:W.Frag)(C:Addr):Prop where
 pg:W.plainGet K C Str.empty=true
 hd:W.hasDictIn K C=true
 po:W.plainOver K C=true
 sa:W.findIn K (.ref C) "__setattr__"=some (some (.builtin "object.__setattr__"))
theorem Cls.get{K:W.Frag}(c:Cls K C)(f:Str):W.plainGet K C f=true:=c.pg
section
variable{X:Cx}{pins:List (Addr×Obj)}{σ:St}{H:Hp}{s:Shared}{A:Around}{E:Value->Shared->Prop}{Q:Value->Shared->Prop}{c:Value}{b:Bool}
inductive jq(K:W.Frag)(H:Hp):V->Value->Prop where
 | non:jq K H .non (.type "NoneType")
 | bl (x:Bool):jq K H (.bl x) (.type "bool")
 | int (i:Int):jq K H (.int i) (.type "int")
 | str (x:Str):jq K H (.str x) (.type "str")
 | flt (x:UInt64):jq K H (.flt x) (.type "float")
 | lst {a:Addr} {xs:List V} (e:H a=some (.lst xs)):jq K H (.ref a) (.type "list")
 | frz {a:Addr} {o:Obj} {xs:List V} (e:H a=some (.frz o (.lst xs))):jq K H (.ref a) (.type "list")
 | tup {a:Addr} {xs:List V} (e:H a=some (.tup xs)):jq K H (.ref a) (.type "tuple")
 | dK {a:Addr} {kvs:List (ag×V)} (e:H a=some (.dK kvs)):jq K H (.ref a) (.type "dict")
 | dT {a:Addr} {kvs:List (List ag×V)} (e:H a=some (.dT kvs)):jq K H (.ref a) (.type "dict")
 | ins {a C dx:Addr} {fs:List (Str×V)} (e:H a=some (.ins C dx fs)) (cl:Cls K C) (ha:W.findIn K (.ref C) "__class__"=some (some (.builtin "object.__class__")))
   (hn:W.specialIn K (.builtin "object.__class__") "__get__"=some (some (.builtin "getset_descriptor.__get__"))) (htk:W.takesIn K (.builtin "object.__class__")=some true)
   (hm:W.mroIn K C (.type "object")=some true):jq K H (.ref a) (.ref C)
theorem yz{t:Value}(I:Inv X pins σ H s)(d:RelV x u)(S:jq X.K H x t)(e:W.kitOne X.K t c=some b)(h:∀N,Q (.bool b) {s with toks:=N}) :
  wpAny (model X.prog X.w) A (call (.builtin "isinstance") [u,c]) Q E s:=by
 cases S with
 |non=>cases(show u=Value.none from d);exact Ol W.kitx_none I.kIn True.intro e (λz=>nomatch z) h|bl y=>cases(show u=Value.bool y from d);exact Ol W.kitx_bool I.kIn True.intro e (λz=>nomatch z) h|int i=>obtain⟨t,q⟩:=(show∃t,u=Value.int i t from d);cases q;exact Ol W.kitx_int I.kIn True.intro e (λz=>nomatch z) h
 |str y=>obtain⟨t,q⟩:=(show∃t,u=Value.str y t from d);cases q;exact Ol W.kitx_str I.kIn True.intro e (λz=>nomatch z) h
 |flt y=>obtain⟨t,q⟩:=(show∃t,u=Value.float y t from d);cases q;exact Ol W.kitx_float I.kIn True.intro e (λz=>nomatch z) h
 | @lst a l f =>cases(show u=Value.ref a from d);obtain⟨_,_,n,_,g⟩:=(show ah X.prog X.w H s.heap a (.lst l)from I.hok a _ f);exact Ol W.kitx_list I.kIn ⟨_,g,rfl⟩ e (λz=>nomatch z) h
 | @frz a T l f =>cases(show u=Value.ref a from d);obtain⟨_,_,_,n,_,g⟩:=(show ah X.prog X.w H s.heap a (.frz T (.lst l))from I.hok a _ f);exact Ol W.kitx_list I.kIn ⟨_,g,rfl⟩ e (λz=>nomatch z) h
 | @tup a l f =>cases(show u=Value.ref a from d);obtain⟨_,_,_,p⟩:=(show ah X.prog X.w H s.heap a (.tup l)from I.hok a _ f);obtain⟨o,g,m,_⟩:=p;exact Ol W.kitx_tuple I.kIn ⟨o,g,m⟩ e (λz=>nomatch z) h
 | @dK a j f =>cases(show u=Value.ref a from d);obtain⟨_,_,vs,_,o,M,U,g,m,_⟩:=(show ah X.prog X.w H s.heap a (.dK j)from I.hok a _ f);exact Ol W.kitx_dict I.kIn ⟨o,g,m.1⟩ e (λz=>nomatch z) h
 | @dT a j f =>cases(show u=Value.ref a from d);obtain⟨_,_,l,_,o,M,U,g,m,_⟩:=(show ah X.prog X.w H s.heap a (.dT j)from I.hok a _ f);exact Ol W.kitx_dict I.kIn ⟨o,g,m.1⟩ e (λz=>nomatch z) h
 | @ins a C Y Z f v R L r D =>cases(show u=Value.ref a from d);obtain⟨mA,O,_⟩:=Eh I.hok f;obtain⟨od,J,_⟩:=O.look;exact Ol (W.kitx_own (v.get _) v.hd R L r D) I.kIn J e (λz=>nomatch z) h
end
structure fH(k:Nat)(A:Around):Prop where
 hd:A.handled=none
 dp:A.depth+3*k+5<recursionLimit
 un:A.units+16*k+200<cLine
theorem fH.deeper{k:Nat}{A:Around}(r:fH (k+1) A)(a:Env):fH k (A.deeper a) := ⟨r.hd,by have:=r.dp;show A.depth+1+3*k+5<_;omega,by have:=r.un;show A.units+3+16*k+200<_;omega⟩
theorem fH.depth{k:Nat}{A:Around}(r:fH k A):A.depth<recursionLimit:=by have:=r.dp;omega
theorem fH.units{k:Nat}{A:Around}(r:fH k A):A.units+64<cLine:=by have:=r.un;omega
def tNil:TA:=λ_ H Q=>Q [] H
def Kh(a:TE)(b:TA):TA:=λσ H Q=>a σ H λx H1=>b σ H1 λxs H2=>Q (x::xs) H2
section
variable{X:Cx}{e:Expr}{es:List Expr}{te:TE}{t:TA}{pos:Pos}
theorem aK:PA X [] tNil:=λ_ _ _ _ H Q I h=>Calls.spliced_nil ⟨[],H,I,.nil,h⟩
theorem aF(g:PE X e te)(c:PA X es t)(d:starEach (e::es) X.env=(false,eval e X.env)::starEach es X.env:=by rfl):PA X (e::es) (Kh te t):=by intro pos a s b H Q I h;rw[d];refine Calls.spliced_cons (aj (g a s b H _ I h) λu s1 hpq=> ?_);obtain⟨x,j,l,i,f⟩:=hpq;exact aj (c pos a s1 b j _ l f) λus s2 ⟨xs,H2,I2,r2,q2⟩=>⟨x::xs,H2,I2,.cons i r2,q2⟩
def tTup(t:TA):TE:=λσ H Q=>t σ H λxs H1=>xs.length<=sizeLine/\∀p,H1 p=none->Q (.ref p) (upd H1 p (.tup xs))
def tLst(t:TA):TE:=λσ H Q=>t σ H λxs H1=>xs.length<=sizeLine/\∀p,H1 p=none->Q (.ref p) (upd H1 p (.lst xs))
theorem uw{x1}(h:PA X es t):PE X (.Tuple es x1 pos) (tTup t):=by intro a s d H Q I c;refine wpAny_Tuple_spliced (aj (h pos a s d H _ I c) λus s1 ⟨xs,H1,I1,r,z,q⟩=>⟨by rwa[<- r.length],?_⟩);refine⟨.ref s1.heap.objs.size,upd H1 s1.heap.objs.size (.tup xs),I1.laid (λb u e=>MU _ e) (Mc _) ?_,rfl,q _ (I1.hok.fresh (Mc _))⟩;exact⟨z,us,r,⟨_,Mg _ rfl,rfl,_,rfl,rfl⟩⟩
theorem gW(h:PA X es t):PE X (.List es pos) (tLst t):=by intro a s d H Q I c;refine wpAny_List_spliced (aj (h pos a s d H _ I c) λus s1 ⟨xs,H1,I1,r,z,q⟩=>⟨by rwa[<- r.length],?_⟩);refine⟨.ref s1.heap.objs.size,upd H1 s1.heap.objs.size (.lst xs),I1.laid (λb u e=>MU _ e) (Mc _) ?_,rfl,q _ (I1.hok.fresh (Mc _))⟩;exact⟨z,us,0,r,Mg _ rfl⟩
end
abbrev Sp:=List V->Hp->VK->XK->Prop
abbrev uU:=List Env->Hp->Shared->XK->Value->Shared->Prop
structure zZ(P:Program)(w:World)(K:W.Frag)(mg:Str->Option Value)(base:Heap)(A:Around)(outer:List Env)(s:Shared)(H:Hp):Prop where
 frames:A.frames=some outer
 mod:Mod K mg base
 bs:∀b o,base.get? b=some o->s.heap.get? b=some o/\H b=none
 bsz:base.objs.size<=s.heap.objs.size
 funs:s.heap.FunFrames base outer
 frf:∀b∈uQ outer,H b=none
 hok:eI P w H s.heap
 bare:AllBare s.gens
def CE(a:List Env)(P:Program)(w:World)(H:Hp)(s:Shared)(Q:VK)(u:Value)(b :Shared):Prop :=
 ∃v c,b.os=s.os/\AllBare b.gens/\Un (uQ a) [] H c s.heap b.heap/\eI P w c b.heap/\RelV v u/\Q v c
def CR(c:uU)(a:List Env)(P:Program)(w:World)(H:Hp)(s:Shared)(Q:VK)(E:XK)(r:Result)(b :Shared):Prop :=
 match r with
 | .ok (.ret u)=>CE a P w H s Q u b| .ok _=>False| .error e=>c a H s E e b
structure bQ(P:Program)(w:World)(K:W.Frag)(mg:Str->Option Value)(base:Heap)(CX:uU)(k:Nat)(f:Addr)(fd:FuncData)(ps:List Str)(sp:Sp):Prop where
 len:∀vs H Q E,sp vs H Q E->vs.length=ps.length
 run:∀(A:Around)(outer:List Env)(s:Shared)(H:Hp)(args:Args)(us:List Value)(vs:List V)(Q:VK)(E:XK),fH k A->zZ P w K mg base A outer s H->BindsTo s fd args (ps.zip us)->aM vs us->sp vs H Q E ->
  codeAny (model P w) A (.call (.ref f) args) (CR CX outer P w H s Q E) s
theorem bQ.imp{P:Program}{K:W.Frag}{CX:uU}{k:Nat}(F:bQ P w K mg base CX k f fd ps sp)
  (h:∀vs H Q E,sp' vs H Q E->sp vs H Q E):bQ P w K mg base CX k f fd ps sp' :=
 ⟨λvs H Q E q=>F.len vs H Q E (h _ _ _ _ q),λA outer s H args us vs Q E hr he hb hv hs=>F.run A outer s H args us vs Q E hr he hb hv (h _ _ _ _ hs)⟩
section
variable{X:Cx}{pins:List (Addr×Obj)}{σ:St}{H:Hp}{s s' :Shared}
theorem Inv.env0(I:Inv X pins σ H s):zZ X.prog X.w X.K X.mg X.base X.A X.stack s H := ⟨I.ok.frames,I.ok.mod,I.bs,M8 I.ok.bsz I.sz,I.stack,I.stkFree,I.hok,I.bare⟩
theorem Inv.after(I:Inv X pins σ H s)(h:CE X.stack X.prog X.w H s Q u s'):EP X pins σ Q u s' :=by obtain⟨v,e,f,a,i,b,r,q⟩:=h;obtain⟨j,g,d,t,c⟩:=s';obtain rfl:c =s.os:=f;exact⟨v,e,I.call i b a (λb z=>absurd z (by simp)),r,q⟩
end
def Ki(b:Sp)(a:List V)(E:XK)(t:TA):TE:=λσ H Q=>t σ H λvs H1=>b (vs++a) H1 Q E
def Binds(K:W.Frag)(d:FuncData)(c:List Str)(b:List Value):Prop :=
 ∀(s:Shared)(a:List Value),K.In s.heap->(a++b).length=c.length->BindsTo s d ⟨a,[]⟩ (c.zip (a++b))
theorem Binds.all{K:W.Frag}(h:∀a:List Value,a.length=b.length->bindArgs c ⟨a,[]⟩=pure (b.zip a)):Binds K c b []:=λs a _ hl=>by rw[NP]at hl ⊢;exact .of_eq (h a hl)
def wB(d:uU)(X:Cx)(E:XK):Prop:=∀(a:List (Addr×Obj))(c:St)(H:Hp)(s:Shared)(e:Value)(b :Shared),Inv X a c H s->d X.stack H s E e b ->X.xe e b
section
variable{X:Cx}{CX:uU}{k:Nat}{f C:Addr}{fd:FuncData}{ps:List Str}{sp:Sp}{dvs:List V}{ds:List Value}{E:XK}{x m:Str}{p pos apos:Pos}{e o:Expr}{es:List Expr}{ta:TE}{t:TA}
theorem G6(F:bQ X.prog X.w X.K X.mg X.base CX k f fd ps sp)(i:fH k X.A)(n:Binds X.K fd ps ds)(l:aM dvs ds)(v:wB CX X E)
  (I:Inv X a d H s) (r:aM c b) (h:sp (c++dvs) H Q E):wpAny (model X.prog X.w) X.A (call (.ref f) b) (EP X a d Q) X.xe s:=by
 have g:=r.append l;have j:(b++ds).length=ps.length:=by rw[<- g.length];exact F.len _ _ _ _ h
 refine wpAny_call (Pg (F.run X.A X.stack s H ⟨b,[]⟩ (b++ds) (c++dvs) Q E i I.env0 (n s b I.kIn j) g h) λr s' hq=> ?_);cases r with
 |error e=>exact v a d H s e s' I hq|ok q =>
  cases q with
  |ret u=>exact I.after hq|next=>exact False.elim hq|brk=>exact False.elim hq|cont=>exact False.elim hq
theorem D9(F:bQ X.prog X.w X.K X.mg X.base CX k f fd ps sp)(d:fH k X.A)(z:Gl X x)(i:X.mg x=some (.ref f))(y:W.keepIn X.K (.ref f)=true)(n:Binds X.K fd ps ds)(l:aM dvs ds)(v:wB CX X E)
  (u:PA X (e::es) t) (b:(x==("__debug__":Str))=false:=by decide) (j:starEach (e::es) X.env=(false,eval e X.env)::starEach es X.env:=by rfl) (c:(backTo pos (starEach es X.env)).any (·.1)=false:=by rfl) :
  PE X (.Call (.Name x p) (e::es) [] pos) (Ki sp dvs E t):=by
 intro a s g H Q I h;refine Pa (fo I z i ?_ b);refine W.callWith_K I.ok.mod.kin y (aj (u pos a s g H _ I h) λus s1 ⟨vs,H1,I1,r,q⟩=>⟨I1.kIn,?_⟩) j c;exact G6 F d n l v I1 r q
end
structure az(N P:List Str)(sc:Scope):Prop where
 kind:sc.kind=.function
 co:sc.isCoroutine=false
 gen:sc.isGenerator=false
 nd:N.Nodup
 pre:N.take P.length=P
 par:∀x∈P,sc.names.lookup x=some .local\/sc.names.lookup x=some .cell
 nofree:∀y∈sc.names,y.2≠.free
theorem oR{b:Str->Option NameKind}{x:Str}:∀{a:List (Str×Value)}{m:Str->Option Value},(∀v,(x,v)∉a)->bindL b a m x=m x
 |[],_,_=>rfl|(n,v)::r,m,h=>by
  unfold bindL;rw[oR λw hw=>h w (MW _ hw)]
  split
  .have:x≠n:=by rintro rfl;exact h v MX
   simp[this]
  .rfl
theorem oU{b:Str->Option NameKind}{x:Str}:∀{a:List (Str×Value)}{m:Str->Option Value},(∀v,(x,v)∉a)->bindC b a m x=m x
 |[],_,_=>rfl|(n,v)::r,m,h=>by
  unfold bindC;rw[oU λw hw=>h w (MW _ hw)]
  split;rfl
  .have:x≠n:=by rintro rfl;exact h v MX
   simp[this]
theorem oS{a:Str->Option NameKind}{x:Str}{v:Value}:∀{P:List Str}{b:List Value}{i:Nat}{m:Str->Option Value},P.Nodup->P[i]? =some x->b[i]? =some v->a x=some .local -> bindL a (P.zip b) m x=some v
 |[],_,_,_,_,h,_,_=>by simp at h|_::_,[],_,_,_,_,h,_=>by simp at h|p::P,w::b,0,m,nd,h1,h2,hk=>by simp at h1 h2;subst h1;subst h2;show bindL a ((p,w)::P.zip b) m p=_;unfold bindL;rw[oR λv hv=>(M9.mp nd).1 (List.of_mem_zip hv).1,Ma hk];simp
 |p::P,w::b,i+1,m,nd,h1,h2,hk=>by show bindL a ((p,w)::P.zip b) m x=_;unfold bindL;exact oS (i:=i) (M9.mp nd).2 (by simpa using h1) (by simpa using h2) hk
theorem oV{a:Str->Option NameKind}{x:Str}{v:Value}:∀{P:List Str}{b:List Value}{i:Nat}{m:Str->Option Value},P.Nodup->P[i]? =some x->b[i]? =some v->a x≠some .local -> bindC a (P.zip b) m x=some v
 |[],_,_,_,_,h,_,_=>by simp at h|_::_,[],_,_,_,_,h,_=>by simp at h|p::P,w::b,0,m,nd,h1,h2,hk=>by simp at h1 h2;subst h1;subst h2;show bindC a ((p,w)::P.zip b) m p=_;unfold bindC;rw[oU λv hv=>(M9.mp nd).1 (List.of_mem_zip hv).1,MY hk];simp
 |p::P,w::b,i+1,m,nd,h1,h2,hk=>by show bindC a ((p,w)::P.zip b) m x=_;unfold bindC;exact oV (i:=i) (M9.mp nd).2 (by simpa using h1) (by simpa using h2) hk
def start(N:List Str)(a:List V):St:=a.map some++List.replicate (N.length-a.length) none
def iS(CX:uU)(P:Program)(w:World)(K:W.Frag)(mg:Str->Option Value)(base:Heap)(N:List Str)(qual:Str)(scope:Scope)(f:Addr)(cd:Value)(A:Around)(outer:List Env)(s:Shared)(H:Hp)(E:XK):Cx where
 prog:=P
 w:=w
 K:=K
 mg:=mg
 base:=base
 A:=A.deeper (envOfC qual scope s.heap.objs.size f cd)
 N:=N
 s₀:=s
 H₀:=H
 env:=envOfC qual scope s.heap.objs.size f cd
 outer:=outer
 stack:=envOfC qual scope s.heap.objs.size f cd::outer
 ex:=[]
 calm:=true
 fn:=λ_=>true
 pn:=[]
 xe:=λe s' =>wpAny (model P w) (A.deeper (envOfC qual scope s.heap.objs.size f cd)) (leaving (envOfC qual scope s.heap.objs.size f cd) e) (λ_ s'' =>CX outer H s E e s'') (λe' s'' =>CX outer H s E e' s'') s'
theorem tu{a:Scope}{n:Nat}(h:a.names.lookup x=some .cell):∃c,(cellsFrom n a.names []).lookup x=some c:=by exact Oi.mp (W.cellsFrom_some a.names n [] (.inl h))
theorem n8{CX:uU}{P:Program}{K:W.Frag}{qual:Str}{scope:Scope}{cd:Value}{A:Around}
  (S:az N ps scope) (hd:A.handled=none) (e0:zZ P w K mg base A outer s H) (hl:vs.length=ps.length) (r:aM vs us)
  (x:InCallC s s.heap.objs.size (bindL (envOfC qual scope s.heap.objs.size f cd).kindOf (ps.zip us) λ_=>none) (cellsFrom (s.heap.objs.size+1) scope.names []) (bindC (envOfC qual scope s.heap.objs.size f cd).kindOf (ps.zip us) λ_=>none) s1) :
  Inv (iS CX P w K mg base N qual scope f cd A outer s H E) [] (start N vs) H s1:=by
 have hpl:ps.length<=N.length:=by have:=NG List.length S.pre;rw[OU]at this;omega
 obtain⟨h1,tk,rfl,hk⟩:=x.done;have GC:∀b,b∉(iS CX P w K mg base N qual scope f cd A outer s H E).ex:=λb z=>absurd (show b∈([]:List Addr)from z) (by simp)
 refine⟨⟨e0.mod,S.kind,rfl,rfl,Mc _,λy z c h1 h2=> ?_,λy hy=> ?_,λy c _ h=> ?_,λ_=>hd,Around.frames_deeper e0.frames,.inr ⟨rfl,rfl⟩,λb z=>absurd z (GC b),e0.bs,e0.bsz,λb _ _=>GC b,λb z=>absurd z (GC b),e0.funs,e0.frf⟩,rfl,e0.bare,Un.kept hk,⟨_,x.toInCall.ns,λi y v h1 h2 h3=> ?_⟩,λy c h=>⟨_,x.cell y c h⟩,e0.hok.fresh (Mc _),λy c h=> ?_,λp hp=>absurd (show p∈([]:List (Addr×Obj))from hp) (by simp),e0.hok.kept hk,?_⟩
 .exact name_of_addr x.apart (NI h1) (NI h2)
 .have hy:=hy
  rcases hy with hy|hy
  .exact tu hy
  .exact absurd rfl (S.nofree _ (NI hy))
 .exact Os (x.above y c (NI h))
 .have hi:i<vs.length:=by
   unfold start at h2
   by_cases hi:i<vs.length;exact hi
   .rw[O5 (by simpa using hi)]at h2
    rw[List.getElem?_replicate]at h2
    split at h2<;>cases h2
  have ha:vs[i]? =some v:=by
   unfold start at h2;rw[Oc (by simpa using hi),Mp]at h2;cases e:vs[i]? with
   |none=>rw[e]at h2;cases h2|some a=>rw[e]at h2;cases h2;rfl
  obtain⟨u,hu,rv⟩:=r.get ha;have hp:ps[i]? =some y:=by rwa[<- S.pre,List.getElem?_take_of_lt (by omega)]
  have ndP:ps.Nodup:=by rw[<- S.pre];exact S.nd.sublist (List.take_sublist _ _)
  refine⟨u,rv,?_⟩
  rcases S.par y (Mu hp)with k|k
  .exact .inl ⟨k,oS ndP hp hu k⟩
  .obtain⟨c,e⟩:=tu k
   refine .inr ⟨.inl k,c,e,?_⟩;have q:=x.cell y c e;rwa[oV ndP hp hu (by show scope.names.lookup y≠_;rw[k];decide)]at q
 .exact e0.hok.fresh (Os (x.above y c (NI h)))
 .unfold start
  show _=N.length;rw[Mj,MT,List.length_replicate];omega
theorem GH{P:Program}{K:W.Frag}{k:Nat}{qual:Str}{body:List Stmt}{scope:Scope}{kV ct:Value}
     (lk:K.lookup f=some ⟨oc,od,.func (W.fnOf l qual g body scope dV kV C Z an c ct),X⟩) (T:W.codeIn K c qual=true) (S:az N O scope)
  (z:∀h H Q E,Y h H Q E->h.length=O.length)
  (p:∀(A:Around)(a:List Env)(s:Shared)(H:Hp)(h:List V)(Q:VK)(E:XK),fH k (A.deeper (envOfC qual scope s.heap.objs.size f c))->Y h H Q E -> ∃t,qK (iS M P w K L d N qual scope f c A a s H E) body t/\t {nx:=λ_ j =>Q .non j,rt:=Q} (start N h) H) :
  bQ P w K L d M (k+1) f (W.fnOf l qual g body scope dV kV C Z an c ct) O Y:=by
 refine⟨z,λA a s H args us h Q E hr e0 hb r hsp=> ?_⟩;have KX:=e0.mod.kin.keeps λb o e=>(e0.bs b o e).1;have m:∀y∈O.zip us,scope.names.lookup y.1=some .local\/(scope.names.lookup y.1=some .cell/\((cellsFrom (s.heap.objs.size+1) scope.names []).lookup y.1).isSome=true):=λ⟨n,v⟩ hy=>by
  rcases S.par n (List.of_mem_zip hy).1 with q|q
  .exact .inl q
  .exact .inr ⟨q,W.cellsFrom_some _ _ _ (.inl q)⟩
 refine codeAny_call_function hr.depth (KX _ _ lk) rfl S.co S.gen rfl (W.codeRec_of KX T) (hb _ _ _ _ ?_);refine wpAny_newFunctionEnv_cells S.kind m λenv he s1 x=> ?_;subst he;refine⟨(e0.mod.nolimit.keeps λb o e=>(e0.bs b o e).1).keeps x.toInCall.keep,codeAny_func ?_⟩;obtain⟨t,ht,hq⟩:=p A a s H h Q E (hr.deeper _) hsp;have I:Inv (iS M P w K L d N qual scope f c A a s H E) [] (start N h) H s1:=n8 S hr.hd e0 (z _ _ _ _ hsp) r x;refine No (ht [] s1 (start N h) H _ I hq) (λfl s' hs=> ?_) λe s' hs=>hs
 have D:∀{i :St}{j :Hp}{v:V}{u:Value},Inv (iS M P w K L d N qual scope f c A a s H E) [] i j s' ->RelV v u->Q v j ->CE a P w H s Q u s' :=
  λ{i j v u} J U q=>⟨v,j,J.os,J.bare,J.base,J.hok,U,q⟩
 cases fl with
 |ret u =>obtain⟨v,i,j,J,U,q⟩:=hs;exact D J U q
 |next =>obtain⟨i,j,J,q⟩:=hs;exact D (v:=V.non) J rfl q
 |brk =>obtain⟨_,_,_,q⟩:=hs;exact False.elim q
 |cont =>obtain⟨_,_,_,q⟩:=hs;exact False.elim q
section
variable{X:Cx}{x:Str}{p pos:Pos}{e:Expr}{es:List Expr}{t:TA}{id T:String}{r:List V->Hp->VK->Prop}
def tCB(r:List V->Hp->VK->Prop)(t:TA):TE:=λσ H Q=>t σ H λvs H1=>r vs H1 Q
theorem aw(m:bA X (.builtin id) r)(l:Gl X x)(j:X.mg x=none)(n:bootBuiltins x=some (.builtin id))(i:PA X (e::es) t)(f:x≠"__name__":=by decide)(c:(x==("__debug__":Str))=false:=by decide)
  (g:starEach (e::es) X.env=(false,eval e X.env)::starEach es X.env:=by rfl) (b:(backTo pos (starEach es X.env)).any (·.1)=false:=by rfl):PE X (.Call (.Name x p) (e::es) [] pos) (tCB r t):=by
 intro a s d H Q I h;refine Pa (dB I l j n ?_ f c);exact PyProof.Rows.callWith_builtin1 (aj (i pos a s d H _ I h) λus s1 ⟨vs,H1,I1,r1,q1⟩=>m a s1 d H1 vs us Q I1 r1 q1) g b
theorem bw(m:bA X (.type T) r)(l:Gl X x)(j:X.mg x=none)(n:bootBuiltins x=some (.type T))(i:PA X (e::es) t)(f:x≠"__name__":=by decide)(c:(x==("__debug__":Str))=false:=by decide)
  (g:starEach (e::es) X.env=(false,eval e X.env)::starEach es X.env:=by rfl) (b:(backTo pos (starEach es X.env)).any (·.1)=false:=by rfl):PE X (.Call (.Name x p) (e::es) [] pos) (tCB r t):=by
 intro a s d H Q I h;refine Pa (dB I l j n ?_ f c);exact NX (aj (i pos a s d H _ I h) λus s1 ⟨vs,H1,I1,r1,q1⟩=>m a s1 d H1 vs us Q I1 r1 q1) g b
end
end L2
namespace HT
open PySem PyProof.Rows
def lexLt:List Int->List Int->Bool
 |[],[]=>false|[],_::_=>true|_::_,[]=>false|x::xs,y::ys=>if x=y then lexLt xs ys else decide (x<y)
theorem vK(x y:Int)(b a:List Int):lexLt (x::b) (y::a)=if x=y then lexLt b a else decide (x<y):=rfl
theorem mh:lexLt [] []=false:=rfl
theorem lV(y:Int)(a:List Int):lexLt [] (y::a)=true:=rfl
theorem lW(x:Int)(a:List Int):lexLt (x::a) []=false:=rfl
section
open PySem.SeqAt
open PySem.AutoSeq1 (wpAny_loadPart')
open PySem.MeetsSeq PySem.MeetsSeq2 PySem.MeetsSeq3
end
section
variable{prog:Program}{w:World}{A:Around}{E:Value->Shared->Prop}{s:Shared}
set_option tactic.hygienic false
theorem FN{t:Addr}(C:IsTup s.heap t d.toArray)(H:IsTup s.heap b a.toArray)(q:d≠[])
  (D:a=[]->Q (.ref t) s) (z:a≠[]->Q (.ref s.heap.objs.size) {s with heap:=s.heap.push {cls:=.type "tuple",data:=.seq (d++a).toArray}})
  (m:d.length+a.length<=sizeLine):wpAny (model prog w) A (binaryOp .Add (.ref t) (.ref b)) Q E s:=by
 obtain⟨⟨cls,v,data,y⟩,l,x,n,u⟩:=id C;obtain⟨⟨p,g,o,f⟩,c,i,r,h⟩:=id H;subst x u i h;have e:d.toArray++a.toArray=(d++a).toArray:=by simp
 by_cases j:a=[]
 .exact concat_meets ⟨_,l,rfl⟩ ⟨_,c,rfl⟩ noFill_tuple_add seq_tuple_add PySem.F.slot_tuple_add PySem.F.entry_tuple_add (Pz _ _)
   (tuple_addW1 t b d.toArray a.toArray n r v g y f (by simpa using q) (by simp[j])) ⟨l,c,D j⟩
 .refine concat_meets ⟨_,l,rfl⟩ ⟨_,c,rfl⟩ noFill_tuple_add seq_tuple_add PySem.F.slot_tuple_add PySem.F.entry_tuple_add (Pz _ _)
   (tuple_addW2 t b d.toArray a.toArray n r v g y f (by simpa using q) (by simpa using j) (by rwa[Me,Me])) ⟨l,c,?_⟩
  rw[e];exact z j
def bZ(n d:Nat):Option Int->Nat
 |none=>d|some v=>if v<0 then(v+(n:Int)).toNat else min v.toNat n
theorem Dl(n d k:Nat):bZ n d (some (k:Int))=min k n:=by show(if k<0 then(k+(n:Int)).toNat else min (k:Int).toNat n)=min k n;rw[MY (by omega),Nq]
theorem Gw(n d:Nat)(b:d<=n)(o:Option Int):bZ n d o<=n:=by
 cases o with
 |none=>exact b|some v =>
  show(if v<0 then(v+n).toNat else min v.toNat n)<=n
  by_cases a:v<0;omega;rw[MY a];exact Nat.min_le_right _ _
theorem xj(v:Int)(n d:Nat):(if v<0 then max (v+(n:Int)) 0 else min v (n:Int))=((bZ n d (some v):Nat):Int):=by
 show(if v<0 then max (v+n) 0 else min v n)=(((if v<0 then(v+n).toNat else min v.toNat n):Nat):Int)
 by_cases a:v<0;omega;omega
theorem v8(lo hi:Option Int)(n:Nat):Builtin.Slice.sliceAdjust lo hi 1 (n:Int)=(((bZ n 0 lo:Nat):Int),((bZ n n hi:Nat):Int)):=by
 have h1:¬((1:Int)<0):=by omega
 unfold Builtin.Slice.sliceAdjust;refine Prod.ext ?_ ?_
 .cases lo with
  |none=>rfl|some v=>exact xj v n 0
 .cases hi with
  |none=>rfl|some v=>exact xj v n n
theorem ut(i j:Nat):Builtin.Slice.slicePlaces (i:Int) (j:Int) 1=j-i:=by
 unfold Builtin.Slice.slicePlaces;have a:(1:Int)>0:=by omega
 split<;>omega
theorem ko{o:Option Int}(p:IsPart v o)(h:Q o s):wpAny (model prog w) A (Builtin.Slice.slicePartIndex v) Q E s:=by
 cases p with
 |none=>exact slicePart_none h|int i t=>exact slicePart_int h
theorem eO{lo:Option Int}{n:Nat}{Q:Int×Int×Nat->Shared->Prop}(hs:s.heap.IsSliceOf sl vl vu .none)(pl:IsPart vl lo)(pu:IsPart vu hi)
  (h:Q (((bZ n 0 lo:Nat):Int),1,bZ n n hi-bZ n 0 lo) s):wpAny (model prog w) A (Builtin.Slice.sliceApplied (.ref sl) (pure (n:Int))) Q E s:=by
 obtain⟨os,hos,hcs,hds⟩:=id hs;refine MS (MS (Nt hos hds rfl (MS (Nt hos hds rfl (MS (Nt hos hds rfl (MV ?_)))))));refine MS (slicePart_none ?_);refine MS (ko pl (MS (ko pu (MS (MV ?_)))));show wpAny _ _ (match Builtin.Slice.sliceAdjust lo hi 1 n with|(lo,hi)=>pure (lo,(1:Int),Builtin.Slice.slicePlaces lo hi 1)) _ _ s;rw[v8 lo hi n];show wpAny _ _ (pure (((bZ n 0 lo:Nat):Int),(1:Int),Builtin.Slice.slicePlaces ((bZ n 0 lo:Nat):Int) (bZ n n hi:Int) 1)) _ _ s;rw[ut];exact MV h
theorem A3(a:Array Value)(i k:Nat):((List.range k).filterMap λ(m:Nat)=>a[((i:Int)+(m:Int)*1).toNat]?).toArray=((a.toList.drop i).take k).toArray:=by
 have e:(λ(m:Nat)=>a[(i+(m:Int)*1).toNat]?)=λm=>a[i+m]? :=by
  funext m
  have:(i+(m:Int)*1).toNat=i+m:=by omega
  rw[this]
 rw[e];have:=pick_run a i k;rw[List.filterMap_map]at this;have b:((λx=>a[x]?)∘λx=>i+x)=λm=>a[i+m]? :=rfl;rw[b]at this;rw[this]
theorem iM{t:Addr}{o:Value}(e:IsTup s.heap t a)(p:s.heap.IsSliceOf j n o .none)(z:IsPart n c)(y:IsPart o d)
  (x:¬(bZ a.size 0 c=0/\bZ a.size a.size d=a.size))
  (h:Q (.ref s.heap.objs.size) {s with heap:=s.heap.push {cls:=.type "tuple",data:=.seq ((a.toList.drop (bZ a.size 0 c)).take (bZ a.size a.size d-bZ a.size 0 c)).toArray}})
  (v:a.size<=sizeLine):wpAny (model prog w) A (getItem (.ref t) (.ref j)) Q E s:=by
 have b:sizeOk (.seq ((a.toList.drop (bZ a.size 0 c)).take (bZ a.size a.size d-bZ a.size 0 c)).toArray):=by show((a.toList.drop (bZ a.size 0 c)).take (bZ a.size a.size d-bZ a.size 0 c)).toArray.size<=sizeLine;rw[Me,OU,O8,M0];omega
 obtain⟨u,l,i,r⟩:=id p;have g:s.TypeIs (.ref j) "slice":=⟨u,l,i⟩;unfold getItem
 try with_reducible refine NV ?_
 first|refine MS (MV ?_)|skip
 refine MS (wpAny_sequenceKey e.typeIs (by decide) ?_)
 refine MS (Nb e.typeIs NW (NE NW e.typeIs entry_tuple_getitem ?_ (args_tuple_getitem _ _)))
 show wpAny _ _ (Builtin.Tuple.tupleItemsOf (.ref t) >>= _) _ _ s;refine MS (tupleItemsOf_ e ?_);refine MS (O0 g ?_);rw[Ma (by decide)];refine MS (eO p z y ?_);have f:¬((((bZ a.size 0 c:Nat):Int)==0&&(1:Int)==1&&(bZ a.size a.size d-bZ a.size 0 c)==a.size)=true):=by intro q;rw[Mb,Mb]at q;exact x ⟨by omega,by omega⟩
 show wpAny _ _ (if(((bZ a.size 0 c:Nat):Int)==0&&(1:Int)==1&&(bZ a.size a.size d-bZ a.size 0 c)==a.size)=true then _ else _) _ _ s;rw[MY f,A3]
 first
  |exact MS (m:=Builtin.Tuple.tupleExact _) (NC (MV ⟨_,rfl,MV h⟩) b)
  |exact MS (m:=Builtin.Tuple.tupleExact _) (NC (MS (MV (MV ⟨_,rfl,MV h⟩))) b)
  |exact MS (MS (m:=Builtin.Tuple.tupleExact _) (NC (MV (MV ⟨_,rfl,MV h⟩)) b))
  |exact MS (MS (m:=Builtin.Tuple.tupleExact _) (NC (MV ⟨_,rfl,MV h⟩) b))
end
end HT
namespace L2
open PySem PySem.Spec PyProof.Rows
abbrev TO:=St->Hp->(Option Int->Hp->Prop)->Prop
def PO(X:Cx)(e:Option Expr)(t:TO):Prop :=
 ∀(a:List (Addr×Obj))(s:Shared)(b:St)(H:Hp)(Q:Option Int->Hp->Prop),Inv X a b H s->t b H Q -> wpAny (model X.prog X.w) X.A (evalPart e X.env) (λu s' =>∃o c,Inv X a b c s' /\IsPart u o/\Q o c) X.xe s
def DX:TO:=λ_ H Q=>Q none H
def Kb(t:TE):TO:=λσ H Q=>t σ H λx H1=>∃i,x=.int i/\Q (some i) H1
set_option tactic.hygienic false
theorem intsAre_of:∀{a:List Value},aM (b.map V.int) a->IntsAre a b:=by
 induction b with
 |nil=>intro a r;cases r;exact .nil|cons n b f =>
  intro a r;cases r with
  |cons d c =>obtain⟨t,e⟩:=d;subst e;exact .cons n t (f c)
section
variable{X:Cx}{e:Expr}{te:TE}{lo hi:Option Expr}{tl th:TO}{pos p2:Pos}
theorem D1:PO X none DX:=by intro a s b H Q I h;exact MV ⟨none,H,I,.none,h⟩
theorem Dz(h:PE X e te):PO X (some e) (Kb te):=by intro a s d H Q I b;refine aj (h a s d H _ I b) λu s1 hpq=> ?_;obtain⟨x,g,j,f,i,rfl,q⟩:=hpq;obtain⟨t,rfl⟩:=f;exact⟨some i,g,j,.int i t,q⟩
def KA(X:Cx)(r:V->Option Int->Option Int->Hp->VK->Prop):Prop :=
 ∀(a:List (Addr×Obj))(s:Shared)(f:St)(H:Hp)(x:V)(v c d:Value)(b g:Option Int)(h:Addr)(Q:VK),Inv X a f H s->RelV x v->s.heap.IsSliceOf h c d .none->IsPart c b->IsPart d g->r x b g H Q -> ∃T i,typeLookup (.type T) "__getitem__"=pure (some (.builtin i))/\s.TypeIs v T/\wpAny (model X.prog X.w) X.A (getItem v (.ref h)) (EP X a f Q) X.xe s
def tSl(r:V->Option Int->Option Int->Hp->VK->Prop)(b:TE)(a c:TO):TE:=λσ H Q=>b σ H λx H1=>a σ H1 λl H2=>c σ H2 λu H3=>r x l u H3 Q
theorem A7(g:KA X r)(m:PE X e te)(n:PO X lo tl)(p:PO X hi th):PE X (.Subscript e (.Slice lo hi none p2) pos) (tSl r te tl th):=by intro a s b H Q I h;refine Subscript_ (aj (m a s b H _ I h) λv s1 hpq=> ?_);obtain⟨x,f,y,j,D⟩:=hpq;refine wpAny_Slice (aj (n a s1 b f _ y D) λvl s2 ⟨l,H2,I2,pl,q2⟩=>aj (p a s2 b H2 _ I2 q2) λvu s3 hpq=> ?_);obtain⟨u,c,d,z,E⟩:=hpq;refine MV ?_;have o:Inv X a b c {s3 with heap:=s3.heap.push {cls:=.type "slice",data:=.fields #[vl,vu,.none]}}:=d.kept λb ob q=>MU _ q;obtain⟨T,L,C,i,J⟩:=g a {s3 with heap:=s3.heap.push {cls:=.type "slice",data:=.fields #[vl,vu,.none]}} b c x v vl vu l u s3.heap.objs.size Q o j (Heap.IsSliceOf.new ..) pl z E;exact tail_any i C J (by with_unfolding_all rfl)
def tZ(a:List V)(b c:Option Int):List V:=(a.drop (HT.bZ a.length 0 b)).take (HT.bZ a.length a.length c-HT.bZ a.length 0 b)
theorem j5(a:List V)(b c:Option Int):(tZ a b c).length<=a.length:=by unfold tZ;rw[OU,O8];omega
def rSlT(K:W.Frag):V->Option Int->Option Int->Hp->VK->Prop:=λx lo hi H Q=>∃a b,x=.ref a/\bT K H a b /\ ¬(HT.bZ b.length 0 lo=0/\HT.bZ b.length b.length hi=b.length)/\∀p,H p=none->Q (.ref p) (upd H p (.tup (tZ b lo hi)))
theorem Gp:KA X (rSlT X.K):=by
 intro j s z H x v A C d g D Q I m w u p h;obtain⟨a,c,rfl,y,n,q⟩:=h;cases m;obtain⟨f,r,i,l⟩:=I.tuple y;have b:f.toArray.size=c.length:=by rw[Me];exact r.length.symm
 refine⟨"tuple",_,NW.lookup,i.typeIs,?_⟩;refine HT.iM i w u p (by rwa[b]) ?_ (by rwa[b]);rw[b];refine⟨.ref s.heap.objs.size,_,I.laid (λb ob q=>MU _ q) (Mc _) ?_,rfl,q _ (I.hok.fresh (Mc _))⟩;exact⟨M8 (j5 c d g) l,_,(r.drop (HT.bZ c.length 0 d)).take (HT.bZ c.length c.length g-HT.bZ c.length 0 d),fg.new _ _⟩
def rLtT(K:W.Frag):R2:=λx y H Q=>∃a b d c,x=.ref a/\y=.ref b/\bT K H a (d.map V.int)/\bT K H b (c.map V.int)/\Q (.bl (HT.lexLt d c)) H
def Kz(K:W.Frag):R2:=λx y H Q=>∃a b d c,x=.ref a/\y=.ref b/\bT K H a d/\bT K H b c/\d≠[]/\d.length+c.length<=sizeLine /\ (c=[]->Q (.ref a) H)/\(c≠[]->∀p,H p=none->Q (.ref p) (upd H p (.tup (d++c))))
theorem aM.nil_iff(r:aM b a):a=[]↔b=[]:=by
 cases r with
 |nil=>simp|cons _ _=>simp
theorem ED:dJ X (binaryOp .Add) (Kz X.K):=by intro f s M H x y v u Q I l D h;obtain⟨a,b,n,j,rfl,rfl,C,A,E,i,J,p⟩:=h;cases l;cases D;obtain⟨L,d,r,_⟩:=I.tuple C;obtain⟨g,c,m,_⟩:=I.tuple A;refine HT.FN r m (λz=>E (d.nil_iff.mp z)) (λz=>⟨.ref a,H,I,rfl,J (c.nil_iff.mp z)⟩) (λz=> ?_) (by rwa[<- d.length,<-c.length]);refine⟨.ref s.heap.objs.size,_,I.laid (λb ob q=>MU _ q) (Mc _) ?_,rfl,p (λw=>z (c.nil_iff.mpr w)) _ (I.hok.fresh (Mc _))⟩;exact⟨by rwa[Mj],_,d.append c,fg.new _ _⟩
end
def uP(n:Nat)(i:Int):Option Nat:=if 0<=i then(if i<n then some i.toNat else none)else if -(n:Int)<=i then some (i+n).toNat else none
def ck{a:Type}(b:List a)(i:Int):Option a:=(uP b.length i).bind λj=>b[j]?
theorem xH(h:uP n i=some j):seqIndex? i n=some j/\j<n/\ -(n:Int)<=i/\i<n:=by
 unfold uP at h
 by_cases b:0<=i
 .rw[Ma b]at h
  by_cases a:i<n
  .rw[Ma a]at h
   have e:=Mx h;exact⟨by rw[seqIndex_of b a,e],by omega,by omega,a⟩
  .rw[MY a]at h;cases h
 .rw[MY b]at h
  by_cases a: -n<=i
  .rw[Ma a]at h
   exact⟨by rw[seqIndex_neg (by omega) a,Mx h],by omega,a,by omega⟩
  .rw[MY a]at h;cases h
theorem qE{b:Type}{a:List b}{v:b}(h:ck a i=some v):∃j,seqIndex? i a.length=some j/\a[j]? =some v/\j<a.length/\ -(a.length:Int)<=i/\i<a.length:=by
 unfold ck at h;cases e:uP a.length i with
 |none=>rw[e]at h;cases h|some j =>rw[e]at h;obtain⟨d,c,f,g⟩:=xH e;exact⟨j,d,h,c,f,g⟩
theorem bD{a:Type}{xs:List a}{j:Nat}{v:a}(h:xs[j]? =some v):ck xs (j:Int)=some v:=by
 have b:=(Mh.mp h).1;have e:uP xs.length j=some j:=by unfold uP;rw[Ma (by omega),Ma (by omega)];simp
 unfold ck;rwa[e]
theorem Cu{b:Type}(a:List b)(v:b):ck (a++[v]) (-1)=some v:=by
 have c:(a++[v]).length=a.length+1:=by simp
 have e:uP (a++[v]).length (-1)=some a.length:=by
  unfold uP;rw[c,MY (by decide),Ma (by omega)]
  congr 1
  omega
 unfold ck;rw[e];simp
def xw(b:Expr):Prop:=∀o i,subscripted b false o i=operate [o,i] (getItem o i)
def MI(X:Cx)(r:R2):Prop :=
 ∀(c a:Expr)(b:List (Addr×Obj))(s:Shared)(d:St)(H:Hp)(x y:V)(v u:Value)(Q:VK),Inv X b d H s->RelV x v->RelV y u->r x y H Q -> subscripted a false v u=operate [v,u] (getItem v u)->wpAny (model X.prog X.w) X.A (subscriptTail c a v u) (EP X b d Q) X.xe s
def MtR(X:Cx)(e:String)(r:V->List V->Hp->VK->Prop):Prop :=
 ∀(a:List (Addr×Obj))(s:Shared)(c:St)(H:Hp)(x:V)(d:List V)(v:Value)(b:List Value)(Q:VK),Inv X a c H s->RelV x v->aM d b->r x d H Q -> wpAny (model X.prog X.w) X.A (call (.builtin e) (v::b)) (EP X a c Q) X.xe s
section
variable{X:Cx}{a b:Expr}{ta tb:TE}{pos:Pos}
theorem rh(f:MI X r)(i:PE X a ta)(d:PE X b tb)(e:xw b):PE X (.Subscript a b pos) (tOp r ta tb):=by intro c s g H Q I h;exact Subscript_ (JU i d I h λv u s2 x y H2 I2 rx ry q=>f a b c s2 g H2 x y v u Q I2 rx ry q (e _ _))
def rIxL(K:W.Frag):R2:=λx y H Q=>∃p c i v,x=.ref p/\y=.int i/\bH K H p c/\ck c i=some v/\Q v H
def rIxT(K:W.Frag):R2:=λx y H Q=>∃p c i v,x=.ref p/\y=.int i/\bT K H p c/\ck c i=some v/\Q v H
def rIxS:R2:=λx y H Q=>∃z i c,x=.str z/\y=.int i/\z.length<=sizeLine/\ck z.cps.toList i=some c/\Q (.str ⟨#[c]⟩) H
theorem ft:MI X (rIxL X.K):=by
 intro f o c s C H x y v u Q I L T h E;obtain⟨p,U,i,z,rfl,rfl,M,O,q⟩:=h;cases L;obtain⟨t,rfl⟩:=T;obtain⟨n,r,m,Z⟩:=I.list M;obtain⟨j,e,J,Y,S,N⟩:=qE O;obtain⟨w,D,g⟩:=r.get J;have R:=r.length;have W:=gb;have d:EP X c C Q w s:=⟨z,H,I,g,q⟩
 by_cases A:0<=i
 .have l:i.toNat=j:=by
   rw[seqIndex_of A N]at e;exact Mx e
  exact item_listR m.isList A (by omega) (by rw[l];simpa using D) d E
 .have l:(i+(n.toArray.size:Int)).toNat=j:=by
   rw[seqIndex_neg (by omega) S]at e;rw[Me,<-R];exact Mx e
  exact subscriptTail_builtinR m.isList.typeIs slot_list_getitem.lookup
   (wpAny_getItem_list_neg m.isList (by omega) (by rw[Me]<;>omega) (by omega) (by rw[l];simpa using D) ⟨rfl,d⟩) E
theorem Bi:MI X (rIxT X.K):=by
 intro d g c s l H x y v u Q I o L h M;obtain⟨p,O,i,z,rfl,rfl,D,E,q⟩:=h;cases o;obtain⟨t,rfl⟩:=L;obtain⟨N,r,m,W⟩:=I.tuple D;obtain⟨j,A,n,U,T,S⟩:=qE E;obtain⟨w,C,e⟩:=r.get n;have R:=gb;have f:EP X c l Q w s:=⟨z,H,I,e,q⟩
 exact subscriptTail_builtinR m.typeIs slot_tuple_getitem.lookup
  (getItem_tuple m (by omega) (by omega) (by rwa[Me,<-r.length]) (by simpa using C) ⟨rfl,f⟩) M
theorem Bj:MI X rIxS:=by
 intro d e f s E H x y v u Q I m C h D;obtain⟨z,i,c,rfl,rfl,N,p,q⟩:=h;obtain⟨t,rfl⟩:=m;obtain⟨J,rfl⟩:=C;obtain⟨j,g,l,M,w,o⟩:=qE p;have r:z.cps.toList.length=z.length:=by simp[Str.length]
 rw[r]at g w o;have L:=gb
 exact tail_any (typeIs_str s z t) slot_str_getitem.lookup (getItem_str (by have n:decide (i< -(2^63:Int))=false:=Mt (by omega);have A:decide (i ≥ 2^63)=false:=Mt (by omega);rw[n,A,Bool.or_false]) (by rw[g];simpa using l) ⟨.str ⟨#[c]⟩,H,I.tok _,⟨_,rfl⟩,q⟩) D
theorem vI(c:List Value)(n j:Nat)(u:Value):Obj.mapSeq (·.setIfInBounds j u) {cls:=.type "list",data:=.seq c.toArray n}={cls:=.type "list",data:=.seq (c.set j u).toArray n}:=by simp[Obj.mapSeq]
theorem Inv.lst{d:List (Addr×Obj)}{g:St}{H:Hp}{s:Shared}{p:Addr}{f:List V}(I:Inv X d g H s)(h:H p=some (.lst f)) :
  ∃(c:List Value)(n:Nat),aM f c/\s.heap.get? p=some {cls:=.type "list",data:=.seq c.toArray n}/\f.length<=sizeLine:=by
 obtain⟨z,c,n,r,e⟩:=I.hok p _ h;exact⟨c,n,r,e,z⟩
theorem Inv.lstUpd{s:Shared}{o i:List V}{g c:List Value}(I:Inv X d l H s)(h:H p=some (.lst o))
  (w:s.heap.get? p=some {cls:=.type "list",data:=.seq g.toArray n}) (m:f {cls:=.type "list",data:=.seq g.toArray n}={cls:=.type "list",data:=.seq c.toArray j}) (r:aM i c) (v:i.length<=sizeLine) (t:Nat) :
  Inv X d l (upd H p (.lst i)) {s with heap:=s.heap.update p f,toks:=t}:=by
 have e:(s.heap.update p f).get? p=some {cls:=.type "list",data:=.seq c.toArray j}:=by rw[M3 f w (by rw[m]<;>rfl),m]
 refine I.write (by rw[h];trivial) (.inl rfl) (λb u hb q=>(Mw _ _ (Nd hb)).trans q) ⟨_,e⟩ ?_;exact⟨v,c,j,r,e⟩
def Kv:V->V->V->Hp->(Hp->Prop)->Prop:=λo i v H Q=>∃p c k j,o=.ref p/\i=.int k/\H p=some (.lst c)/\uP c.length k=some j/\Q (upd H p (.lst (c.set j v)))
theorem Ac:MA X Kv:=by
 intro c s A H o i v S R u Q I C M E h;obtain⟨p,D,k,j,rfl,rfl,w,J,q⟩:=h;cases C;obtain⟨t,rfl⟩:=M;obtain⟨d,n,r,l,L⟩:=I.lst w;obtain⟨e,N,z,x⟩:=xH J;have f:=r.length;have O:=gb
 have y :=
  I.lstUpd w l (vI d n j u) (r.set E j) (by rwa[OE]) s.toks
 by_cases m:0<=k
 .have g:k.toNat=j:=by
   rw[seqIndex_of m x]at e;exact Mx e
  exact W.ki_setAt l m (by omega) (by rwa[Me,<-f]) (by rw[g];exact⟨_,y,q⟩)
 .have g:(k+(d.toArray.size:Int)).toNat=j:=by
   rw[seqIndex_neg (by omega) z]at e;rw[Me,<-f];exact Mx e
  exact W.ki_setBack l (by omega) (by rwa[Me,<-f]) (by omega) (by rw[g];exact⟨_,y,q⟩)
theorem ou(c d:Option Int)(n:Nat):(sliceBounds c d none n).1=((HT.bZ n 0 c:Nat):Int)/\(sliceBounds c d none n).2.1=((HT.bZ n n d:Nat):Int)/\(sliceBounds c d none n).2.2=1:=by
 refine⟨?_,?_,rfl⟩
 .cases c with
  |none=>simp[sliceBounds,HT.bZ]|some i =>
   simp only[sliceBounds,HT.bZ,Option.getD_none,show(1:Int)>0 by decide,PN]
   by_cases h:i<0;simp only[h,PN]<;>omega;simp only[h,Om]<;>omega
 .cases d with
  |none=>simp[sliceBounds,HT.bZ]|some i =>
   simp only[sliceBounds,HT.bZ,Option.getD_none,show(1:Int)>0 by decide,PN]
   by_cases h:i<0;simp only[h,PN]<;>omega;simp only[h,Om]<;>omega
theorem ma(c:List Value)(d e:Option Int):slicePick c.toArray d e none=((c.drop (HT.bZ c.length 0 d)).take (HT.bZ c.length c.length e-HT.bZ c.length 0 d)).toArray:=by obtain⟨g,f,h⟩:=ou d e c.toArray.size;unfold slicePick;rw[g,f,h];simp only[sliceRange_one,pick_run,Me]<;>rfl
def rSlL(K:W.Frag):V->Option Int->Option Int->Hp->VK->Prop:=λx lo hi H Q=>∃a c,x=.ref a/\bH K H a c/\∀p,H p=none->Q (.ref p) (upd H p (.lst (tZ c lo hi)))
theorem Dd:KA X (rSlL X.K):=by intro i s y H x v z A e f C Q I j p m l h;obtain⟨a,c,rfl,u,q⟩:=h;cases j;obtain⟨w,r,g,n⟩:=I.list u;have d:=r.length;refine⟨"list",_,slot_list_getitem.lookup,g.isList.typeIs,?_⟩;refine wpAny_getItem_list_slice g.isList p m l .none (by simp) ?_ (by rw[Me]<;>omega);rw[ma,<-d];refine⟨.ref s.heap.objs.size,_,I.laid (λb ob q=>MU _ q) (Mc _) ?_,rfl,q _ (I.hok.fresh (Mc _))⟩;exact⟨M8 (j5 c e f) n,_,0,(r.drop (HT.bZ c.length 0 e)).take (HT.bZ c.length c.length f-HT.bZ c.length 0 e),Mg _ rfl⟩
def gJ:V->Bool
 | .non=>true| .bl _=>true| .int _=>true| .str _=>true|_=>false
def zh:V->V->Bool
 | .non,.non=>true| .bl a,.bl b=>a==b| .bl a,.int b=>(if a then 1 else 0)==b| .int a,.bl b=>a==(if b then 1 else 0)| .int a,.int b=>a==b| .str a,.str b=>a==b|_,_=>false
theorem JG{A:Around}(e:RelV y u)(c:RelV x v)(g:gJ y=true)(f:gJ x=true):SeqAt.EqAt A s u v (zh y x):=by
 cases y with
 |non =>
  cases e;cases x with
  |non=>cases c;exact SeqAt.EqAt.same _|bl b=>cases c;exact SeqAt.EqAt.none_bool b|int b=>obtain⟨t,rfl⟩:=c;exact SeqAt.EqAt.none_int b t
  |str b=>obtain⟨t,rfl⟩:=c;exact SeqAt.EqAt.none_str b t
  |_=>exact absurd (show false=true from f) MZ
 |bl a =>
  cases e;cases x with
  |non=>cases c;exact SeqAt.EqAt.bool_none a|bl b=>cases c;exact SeqAt.EqAt.bool_bool a b|int b=>obtain⟨t,rfl⟩:=c;exact SeqAt.EqAt.bool_int a b t
  |str b=>obtain⟨t,rfl⟩:=c;exact SeqAt.EqAt.bool_str a b t
  |_=>exact absurd (show false=true from f) MZ
 |int a =>
  obtain⟨d,rfl⟩:=e;cases x with
  |non=>cases c;exact SeqAt.EqAt.int_none a d|bl b=>cases c;exact SeqAt.EqAt.int_bool a d b|int b=>obtain⟨t,rfl⟩:=c;exact SeqAt.EqAt.int_int a d b t
  |str b=>obtain⟨t,rfl⟩:=c;exact SeqAt.EqAt.int_str a d b t
  |_=>exact absurd (show false=true from f) MZ
 |str a =>
  obtain⟨d,rfl⟩:=e;cases x with
  |non=>cases c;exact SeqAt.EqAt.str_none a d|bl b=>cases c;exact SeqAt.EqAt.str_bool a d b|int b=>obtain⟨t,rfl⟩:=c;exact SeqAt.EqAt.str_int a d b t
  |str b=>obtain⟨t,rfl⟩:=c;exact SeqAt.EqAt.str_str a d b t
  |_=>exact absurd (show false=true from f) MZ
 |_=>exact absurd (show false=true from g) MZ
def Ex(x:V)(u:Value):Bool:=match u with
 | .none=>zh .non x| .bool b=>zh (.bl b) x| .int i _=>zh (.int i) x| .str z _=>zh (.str z) x|_=>false
theorem CC(r:RelV y u)(f:gJ y=true):Ex x u=zh y x:=by
 cases y with
 |non=>cases r;rfl|bl b=>cases r;rfl|int i=>obtain⟨t,rfl⟩:=r;rfl
 |str z=>obtain⟨t,rfl⟩:=r;rfl
 |_=>exact absurd (show false=true from f) MZ
theorem qG{x:V}:∀{c:List V}{d:List Value},aM c d->c.all gJ=true->d.any (Ex x)=c.any λy=>zh y x
 |_,_,.nil,_=>rfl|y::c,u::d,.cons r t,f=>by rw[PM,Mb]at f;rw[Pe,Pe,CC r f.1,qG t f.2]
theorem lQ{A:Around}{s:Shared}{x:V}{v:Value}(g:RelV x v)(h:gJ x=true):∀{e:List V}{d:List Value},aM e d->e.all gJ=true->∀u∈d,SeqAt.EqAt A s u v (Ex x u)
 |_,_,.nil,_=>λu c=>by cases c|y::e,u::d,.cons r t,f=>λu' c=>by
  rw[PM,Mb]at f
  rcases Ml.mp c with rfl|c
  .rw[CC r f.1];exact JG r g f.1 h
  .exact lQ g h t f.2 u' c
def inV(x:V)(c:List V):Bool:=c.any λy=>zh y x
def rIn(K:W.Frag)(neg:Bool):R2:=λx y H Q=>∃p c,y=.ref p/\(bH K H p c\/bT K H p c)/\gJ x=true/\c.all gJ=true/\Q (.bl (if neg then !inV x c else inV x c)) H
theorem pF:dJ X (compareOp .NotIn) (rIn X.K true):=by
 intro i s n H x y v u Q I g m h;obtain⟨p,o,rfl,d,j,e,q⟩:=h;cases m
 rcases d with d|d
 .obtain⟨c,r,f,l⟩:=I.list d
  refine SeqAt.notIn_listAt (Ex x) f.isList (λw hw=>lQ g j r e w (by simpa using hw)) ⟨.bl _,H,I,rfl,?_⟩;rwa[show c.toArray.any (Ex x)=c.any (Ex x)by simp,qG r e]
 .obtain⟨c,r,f,l⟩:=I.tuple d
  refine SeqAt.notIn_tupleAt (Ex x) f (λw hw=>lQ g j r e w (by simpa using hw)) ⟨.bl _,H,I,rfl,?_⟩;rwa[show c.toArray.any (Ex x)=c.any (Ex x)by simp,qG r e]
theorem cY:bA X (.builtin "len") (λxs H Q=>∃p ys,xs=[.ref p]/\(bH X.K H p ys\/bT X.K H p ys)/\Q (.int ys.length) H):=by
 intro pins s σ H xs us Q I r h;obtain⟨p,ys,rfl,hq,q⟩:=h;obtain⟨u,rfl,rx⟩:=vals1 r;cases rx;have hn:=gb
 rcases hq with hq|hq
 .obtain⟨its,r',pl,hz⟩:=I.list hq
  have hlen:=r'.length;exact Calls.call_len_list pl.isList (by simp only[Me]<;>omega) ⟨.int ys.length,H,I.tok _,⟨s.toks+1,by rw[Me,hlen]⟩,q⟩
 .obtain⟨its,r',pl,hz⟩:=I.tuple hq
  have hlen:=r'.length;exact len_tuple pl (by simp only[Me]<;>omega) ⟨.int ys.length,H,I.tok _,⟨s.toks+1,by rw[Me,hlen]⟩,q⟩
theorem iY:bA X (.builtin "len") (λxs H Q=>∃z,xs=[.str z]/\z.length<=sizeLine/\Q (.int z.length) H):=by intro pins s σ H xs us Q I r h;obtain⟨z,rfl,hz,q⟩:=h;obtain⟨u,rfl,t,rfl⟩:=vals1 r;have hn:=gb;exact len_str (by omega) ⟨.int z.length,H,I.tok _,⟨_,rfl⟩,q⟩
theorem qA:bA X (.type "list") (λxs H Q=>∃p ys,xs=[.ref p]/\(bH X.K H p ys\/bT X.K H p ys)/\∀l,H l=none->Q (.ref l) (upd H l (.lst ys))):=by
 intro pins s σ H xs us Q I r h;obtain⟨p,ys,rfl,hq,q⟩:=h;obtain⟨u,rfl,rx⟩:=vals1 r;cases rx
 have fin:∀its,aM ys its->ys.length<=sizeLine->∀h' c',(∀b o',s.heap.get? b=some o' ->h'.get? b=some o') -> h'.get? s.heap.objs.size=some {cls:=.type "list",dict:=none,data:=.seq its.toArray c',slots:= #[]}->EP X pins σ Q (.ref s.heap.objs.size) {s with heap:=h'}:=λits r' hz h' c' kp e =>⟨.ref s.heap.objs.size,_,I.laid kp (Mc _) (show ah X.prog X.w _ h' _ (.lst ys)from⟨hz,its,c',r',e⟩),rfl,q _ (I.hok.fresh (Mc _))⟩
 rcases hq with hq|hq
 .obtain⟨its,r',pl,hz⟩:=I.list hq
  have hlen:=r'.length;obtain⟨o,ho,hc,n,hd⟩:=pl.isList;exact call_list_seq p (.inl rfl) ho hc hd (λh' c' kp e=>fin its r' hz h' c' kp e) (by simp only[Me]<;>omega)
 .obtain⟨its,r',pl,hz⟩:=I.tuple hq
  have hlen:=r'.length;obtain⟨o,ho,hc,n,hd⟩:=pl;exact call_list_seq p (.inr rfl) ho hc hd (λh' c' kp e=>fin its r' hz h' c' kp e) (by simp only[Me]<;>omega)
theorem gM:bA X (.type "tuple") (λxs H Q=>∃p ys,xs=[.ref p]/\((bH X.K H p ys/\∀l,H l=none->Q (.ref l) (upd H l (.tup ys)))\/(bT X.K H p ys/\Q (.ref p) H))):=by
 intro pins s σ H xs us Q I r h;obtain⟨p,ys,rfl,h⟩:=h;obtain⟨u,rfl,rx⟩:=vals1 r;cases rx
 rcases h with⟨hq,q⟩|⟨hq,q⟩
 .obtain⟨its,r',pl,hz⟩:=I.list hq
  have hlen:=r'.length;refine call_tuple_list pl.isList (λh' kp=> ?_) (by simp only[Me]<;>omega);have I1:=I.kept (t' :=s.toks) kp
  have I2:=
   I1.laid (t' :=s.toks) (λb o e=>MU _ e) (Mc _) (show ah X.prog X.w _ _ _ (.tup ys)from⟨hz,its,r',fg.new _ _⟩)
  exact⟨.ref h'.objs.size,_,I2,rfl,q _ (I1.hok.fresh (Mc _))⟩
 .obtain⟨its,r',pl,hz⟩:=I.tuple hq
  exact call_tuple_same pl ⟨.ref p,H,I,rfl,q⟩
def tyV(K:W.Frag)(T:String)(x:V)(H:Hp):Prop:=match x with
 | .str _=>T="str"| .int _=>T="int"| .ref p=>(T="list"/\∃d,bH K H p d)\/(T="tuple"/\∃d,bT K H p d) \/ (T="dict"/\((∃c,H p=some (.dK c))\/∃c,H p=some (.dT c)))\/(T="set"/\∃S n,H p=some (.set S n))|_=>False
theorem AF(I:Inv X g y H s)(r:RelV x v)(j:tyV X.K T x H) :
  s.TypeIs v T/\∀a,v=.ref a->∃u,s.heap.get? a=some u/\u.dict=none:=by
 cases x with
 |str z =>obtain⟨t,rfl⟩:=r;cases(show T="str" from j);exact⟨typeIs_str s z t,λ_ e=>nomatch e⟩
 |int i =>obtain⟨t,rfl⟩:=r;cases(show T="int" from j);exact⟨typeIs_int s i t,λ_ e=>nomatch e⟩
 |ref p =>
  cases r
  rcases j with⟨rfl,A,m⟩|⟨rfl,A,m⟩|⟨rfl,f⟩|⟨rfl,S,n,f⟩
  .obtain⟨E,_,w,_⟩:=I.list m
   refine⟨w.isList.typeIs,λa e=> ?_⟩;cases e;obtain⟨o,n,e,c,C,_⟩:=w;exact⟨o,e,C⟩
  .obtain⟨o,q,h,D⟩:=I.tupleD m
   refine⟨⟨o,q,h⟩,λa e=> ?_⟩;cases e;exact⟨o,q,D⟩
  .have z:∃o,s.heap.get? p=some o/\o.ExactDict:=by
    rcases f with⟨l,f⟩|⟨l,f⟩
    .obtain⟨_,_,_,_,o,_,_,e,d,_⟩:=I.hok p _ f
     exact⟨o,e,d⟩
    .obtain⟨_,_,_,_,o,_,_,e,d,_⟩:=I.hok p _ f
     exact⟨o,e,d⟩
   obtain⟨o,e,d⟩:=z;refine⟨⟨o,e,d.1⟩,λa h=> ?_⟩;cases h;exact⟨o,e,d.2.1⟩
  .obtain⟨o,_,_,_,e,d,_⟩:=I.hok p _ f
   refine⟨⟨o,e,d.1⟩,λa h=> ?_⟩;cases h;exact⟨o,e,d.2.1⟩
 |_=>exact False.elim j
def tBM0(K:W.Frag)(T:String)(r:V->List V->Hp->VK->Prop)(c:TE):TE:=λσ H Q=>c σ H λx H1=>tyV K T x H1/\r x [] H1 Q
def tBM(K:W.Frag)(T:String)(r:V->List V->Hp->VK->Prop)(c:TE)(t:TA):TE:=λσ H Q=>c σ H λx H1=>tyV K T x H1/\t σ H1 λxs H2=>r x xs H2 Q
variable{o e:Expr}{es:List Expr}{to:TE}{t:TA}{name:Str}{apos cpos:Pos}{T id:String}{r:V->List V->Hp->VK->Prop}
theorem HZ(y:PlainAttrs T)(g:Slot T name id)(i:typeOf (.builtin id)=pure (.type "method_descriptor"))(q:MtR X id r)(A:PE X o to)
  (d:attributeBase o name X.env (eval o X.env)=eval o X.env:=by rfl) (f:(apos.endLine==cpos.line)=true:=by rfl):PE X (.Call (.Attribute o name apos) [] [] cpos) (tBM0 X.K T r to):=by
 intro c s j H Q I h;refine wpAny_Call_method0_late d f (aj (A c s j H _ I h) λv s1 hpq=> ?_);obtain⟨x,z,m,l,u,w⟩:=hpq;obtain⟨p,n⟩:=AF m l u;exact⟨T,id,y,g,i,p,n,Ph rfl (PySem.evalArgs_none (q c s1 j z x [] v [] Q m l .nil w))⟩
theorem F9(E:PlainAttrs T)(j:Slot T name id)(m:typeOf (.builtin id)=pure (.type "method_descriptor"))(y:MtR X id r)(L:PE X o to)(z:PA X (e::es) t)
  (f:attributeBase o name X.env (eval o X.env)=eval o X.env:=by rfl)
  (i:((backTo cpos (starEach (e::es) X.env)).all (λx=> !x.1)&&(backToKw cpos (keywordEach [] X.env)).all (λx=>x.1.isSome) && decide ((e::es).length+([]:List Keyword).length+(if([]:List Keyword).isEmpty then 0 else 1)<30))=true:=by rfl)
  (g:(apos.endLine==cpos.line)=true:=by rfl) (C:starEach (e::es) X.env=(false,eval e X.env)::starEach es X.env:=by rfl) (d:(backTo cpos (starEach es X.env)).any (·.1)=false:=by rfl) :
  PE X (.Call (.Attribute o name apos) (e::es) [] cpos) (tBM X.K T r to t):=by
 intro c s l H Q I h;refine wpAny_Call_method_late f i g rfl (aj (L c s l H _ I h) λv s1 hpq=> ?_);obtain⟨x,J,p,n,A,D⟩:=hpq;obtain⟨w,u⟩:=AF p n A;refine⟨T,id,E,j,m,w,u,?_⟩;have q:=z cpos c s1 l J _ p D;rw[C]at q ⊢;refine Ph (by show(false||(backTo cpos (starEach es X.env)).any (·.1))=false;rw[d]<;>rfl) (Calls.evalArgs_plain ?_);exact aj q λus s2 ⟨vs,H2,I2,r2,q2⟩=>y c s2 l H2 x vs v us Q I2 n r2 q2
end
def MtM(X:Cx)(e:String)(r:V->List V->Hp->VK->Prop):Prop :=
 ∀(a:List (Addr×Obj))(s:Shared)(c:St)(H:Hp)(x:V)(d:List V)(v:Value)(b:List Value)(Q:VK),Inv X a c H s->RelV x v->aM d b->r x d H Q -> wpAny (model X.prog X.w) X.A (call (.builtin e) (v::b)) (EP X a c Q) X.xe s
theorem aM.one(h:aM [x] a):∃u,a=[u]/\RelV x u:=vals1 h
theorem aM.two(h:aM [x,y] a):∃u v,a=[u,v]/\RelV x u/\RelV y v:=vals2 h
theorem aM.zero:∀{a:List Value},aM [] a->a=[]
 |_,.nil=>rfl
theorem aM.dropLast(h:aM b a):aM b.dropLast a.dropLast:=by
 induction h with
 |nil=>exact .nil|cons r t c =>
  cases t with
  |nil=>exact .nil|cons q d =>exact .cons r c
theorem aM.reverse(h:aM b a):aM b.reverse a.reverse:=by
 induction h with
 |nil=>exact .nil|cons r t c=>rw[PX,PX];exact aM.append c (.cons r .nil)
theorem aM.rep{b:List V}{a:List Value}(h:aM b a):∀k:Nat,aM (List.replicate k b).flatten (List.replicate k a).flatten
 |0=>.nil|k+1=>by rw[OQ,OQ,Oy,Oy];exact aM.append h (aM.rep h k)
theorem vU{c:Type}(l:List c):l.eraseIdx (l.length-1)=l.dropLast:=by
 induction l with
 |nil=>rfl|cons a r d =>
  cases r with
  |nil=>rfl|cons b r =>
   have e:(a::b::r).length-1=((b::r).length-1)+1:=by have g:(a::b::r).length=r.length+2:=rfl;have f:(b::r).length=r.length+1:=rfl;omega
   rw[e,List.eraseIdx_cons_succ,d]
   all_goals rfl
theorem foldl_rep(b:List Value):∀(k:Nat)(a:List Value),List.foldl (λx1 x2=>x1++x2) a.toArray (List.replicate k b.toArray)=(a++(List.replicate k b).flatten).toArray
 |0,a=>by simp|k+1,a=>by
  have e:a.toArray++b.toArray=(a++b).toArray:=by simp
  have c:(a++b)++(List.replicate k b).flatten=a++(List.replicate (k+1) b).flatten:=by rw[OQ,Oy,Ny]
  rw[<- c,<-foldl_rep b k (a++b),<-e,OQ,OO]
section
variable{X:Cx}{pins:List (Addr×Obj)}{σ:St}{H:Hp}{s:Shared}{l b:Addr}{xs ys zs:List V}
theorem Inv.lset{a its':List Value}(I:Inv X pins σ H s)(g:H l=some (.lst xs))
  (e:s.heap.get? l=some {cls:=.type "list",data:=.seq a.toArray n}) (d:f a.toArray=its'.toArray) (i:aM ys its') (c:ys.length<=sizeLine) :
  Inv X pins σ (upd H l (.lst ys)) {s with heap:=s.heap.update l (Obj.mapSeq f),toks:=h}:=by
 have q:=PySem.IsL.update e f;rw[d]at q;refine I.write (by rw[g];exact trivial) (.inl rfl) (λb' u hb hu=>(Mw s.heap (Obj.mapSeq f) (Nd hb)).trans hu) ⟨_,q⟩ ?_;exact⟨c,its',_,i,q⟩
theorem Inv.lnew{t':Nat}(I:Inv X pins σ H s)(d:aM ys a)(c:ys.length<=sizeLine) :
  Inv X pins σ (upd H s.heap.objs.size (.lst ys)) {s with heap:=s.heap.push {cls:=.type "list",data:=.seq a.toArray},toks:=t'} :=
 I.laid (λ_ _ q=>MU _ q) (Mc _) ⟨c,a,0,d,Mg _ rfl⟩
theorem Inv.fresh(I:Inv X pins σ H s):H s.heap.objs.size=none:=I.hok.fresh (Mc _)
theorem Inv.lstM(I:Inv X pins σ H s)(c:H l=some (.lst xs)):xs.length<=sizeLine/\∃(a:List Value)(n:Nat),aM xs a/\xs.length=a.length/\s.heap.get? l=some {cls:=.type "list",data:=.seq a.toArray n}:=by obtain⟨z,a,n,r,e⟩:=I.hok l _ c;exact⟨z,a,n,r,r.length,e⟩
theorem BL(h:n<=sizeLine):Builtin.List.listTooLong n=false:=by exact Mt (by omega)
end
section
variable{X:Cx}
def Du:V->List V->Hp->VK->Prop:=λx vs H Q=>∃l a y,x=.ref l/\vs=[y]/\H l=some (.lst a)/\a.length<sizeLine/\Q .non (upd H l (.lst (a++[y])))
theorem nj:MtM X "list.append" Du:=by intro b s i H x p v m Q I d g h;obtain⟨l,j,y,rfl,rfl,c,w,q⟩:=h;cases d;obtain⟨u,rfl,f⟩:=g.one;obtain⟨z,a,n,r,o,e⟩:=I.lstM c;refine call_meets F.slot_list_append ⟨_,e,rfl⟩ F.entry_list_append (F.args_list_append_2 _ _) (PySem.list_append l a.toArray n u (by rw[Me];omega)) ⟨e,?_⟩;refine⟨.non,_,I.lset c e (by simp) (r.append (.cons f .nil)) ?_,rfl,q⟩;rw[Mj,List.length_singleton];omega
def rPop:V->List V->Hp->VK->Prop:=λx vs H Q=>∃l a y,x=.ref l/\vs=[]/\H l=some (.lst a)/\a[a.length-1]? =some y/\Q y (upd H l (.lst a.dropLast))
theorem IA:MtM X "list.pop" rPop:=by
 intro d s w H x D v C Q I g o h;obtain⟨l,A,y,rfl,rfl,f,j,q⟩:=h;cases g;have b:=o.zero;subst b;obtain⟨z,a,n,r,m,e⟩:=I.lstM f;obtain⟨u,p,i⟩:=r.get j;have c :a.toArray[a.toArray.size-1]? =some u:=by show a.toArray[a.length-1]? =some u;rwa[<- Nh,<-m]
 refine call_meets F.slot_list_pop ⟨_,e,rfl⟩ F.entry_list_pop (F.args_list_pop_1 _) (MeetsSeq.list_pop_last l a.toArray n u c (by rw[Me];omega)) ⟨e,?_⟩;refine⟨y,_,I.lset f e ?_ r.dropLast ?_,i,q⟩
 .show a.toArray.eraseIdxIfInBounds (a.toArray.size-1)=a.dropLast.toArray
  rw[Me,List.eraseIdxIfInBounds_toArray,vU]
 .rw[List.length_dropLast]
  omega
def rCat:R2:=λx y H Q=>∃l b c a,x=.ref l/\y=.ref b/\H l=some (.lst c)/\H b=some (.lst a)/\c.length+a.length<=sizeLine/\∀p,H p=none->Q (.ref p) (upd H p (.lst (c++a)))
theorem Ho:dJ X (binaryOp .Add) rCat:=by
 intro d s C H x y v u Q I f o h;obtain⟨l,b,D,A,rfl,rfl,g,w,M,q⟩:=h;cases f;cases o;obtain⟨z,c,n,r,J,e⟩:=I.lstM g;obtain⟨L,a,E,p,j,m⟩:=I.lstM w;refine PySem.P.add_list e m ?_ (by rw[Me,Me];omega);have i:c.toArray++a.toArray=(c++a).toArray:=by simp
 rw[i];exact⟨.ref _,_,I.lnew (r.append p) (by rw[Mj];omega),rfl,q _ I.fresh⟩
def rRep:R2:=λx y H Q=>∃l k a,x=.ref l/\y=.int k/\H l=some (.lst a)/\ -(2^63)<=k/\k<2^63/\a.length*k.toNat<=sizeLine /\ ∀p,H p=none->Q (.ref p) (upd H p (.lst (List.replicate k.toNat a).flatten))
theorem EY{c:Type}(a:List c)(k:Nat):(List.replicate k a).flatten.length=k*a.length:=by
 induction k with
 |zero=>simp|succ k b=>rw[OQ,Oy,Mj,b,Nat.succ_mul,Nat.add_comm]
theorem He:dJ X (binaryOp .Mult) rRep:=by
 intro pins s σ H x y v u Q I rx ry h;obtain⟨l,k,xs,rfl,rfl,hH,h1,h2,hz,q⟩:=h;cases rx;obtain⟨t,rfl⟩:=ry;obtain⟨z,its,n,r,hl,e⟩:=I.lstM hH;have hlen:its.toArray.size*k.toNat<=sizeLine:=by rwa[Me,<-hl]
 have hcap:¬its.toArray.size*k.toNat>(2^63-1)/8:=by
  have:(sizeLine:Nat)<=(2^63-1)/8:=by decide
  omega
 have hfit:¬(!Builtin.List.listFitsIndex k)=true:=by rw[fitsIndex_both h1 h2];exact MZ
 have hlong:¬Builtin.List.listTooLong (its.toArray.size*k.toNat)=true:=by rw[BL hlen];exact MZ
 have hnew:List.foldl (λx1 x2=>x1++x2) #[] (List.replicate (if its.toArray.isEmpty=true then 0 else k.toNat) its.toArray)=(List.replicate k.toNat its).flatten.toArray:=by
  have f0:=λm=>by have:=foldl_rep its m [];rwa[List.nil_append]at this
  rw[f0];cases its with
  |nil=>simp|cons a r' =>rw[MY (by simp)]
 refine wpAny_binaryOp_repeat_ref (by decide) ⟨_,e,rfl⟩ (λs' =>typeIs_int s' k t) noFill_list_mul F.fills_int_mul F.slot_int_rmul repeat_list F.slot_int_index.lookup
  (call_meets F.slot_int_rmul (typeIs_int s k t) F.entry_int_rmul (F.args_int_rmul_2 _ _) (int___rmul___int_list k t l its.toArray n) ⟨e,rfl,⟨_,e,rfl⟩,call_meets F.slot_list_mul ⟨_,e,rfl⟩ F.entry_list_mul (F.args_list_mul_2 _ _) (AutoListH.list___mul___list_int_3 l its.toArray n k t hfit hcap hlong) ⟨e,?_⟩⟩)
 rw[hnew];exact⟨.ref _,_,I.lnew (r.rep k.toNat) (by rwa[EY,Nat.mul_comm]),rfl,q _ I.fresh⟩
end
end L2
namespace Att
open PySem PySem.W PySem.Calls PyProof.Rows
set_option tactic.hygienic false
theorem kJ{P:Params}:∀(c:List Int)(d:List Value),WellAll P h d (c.map WData.int)->IntsAre d c:=by
 intro c
 induction c with
 |nil =>intro d w;cases w;exact .nil
 |cons n c e =>
  intro d w;cases w with
  |cons a b =>cases a;exact .cons _ _ (e _ b)
theorem yY{l:OpenLaw}(w:l.most=some n){P:Params}{h:Heap}{args:List WData}
  (c:l.row.toRowW.claim.pre args=true) (m:WellAll P h e args) :
  ∃a p b,e=[Value.ref a]/\args=[WData.list (b.map WData.int)]/\h.get? a=some {cls:=.type "list",data:=.seq p.toArray}/\IntsAre p b/\b.length<=n:=by
 have q:l.pre.holds [] {args:=args}=true:=(pre_splitW c).2;obtain⟨d,r,rfl,u,s⟩:=hasAllW_cons ((pre_splitW c).1);obtain rfl:=hasAllW_nil s;obtain⟨C,rfl,y⟩:=hasW_list u;obtain⟨b,rfl⟩:=items_int y;have g:b.length<=n:=by
  have j:(WTm.not (.lt (.lit (.int n)) (.len (.arg 0)))).holds [] {args:=[.list (b.map .int)]}=true:=by have j:=(holds_andW q).1;rwa[w]at j
  have i:=condW_of j (w_not (w_lt w_lit (w_len_list (w_arg rfl))));refine Nat.le_of_not_lt λq=> ?_;have v :n<((b.length:Nat):Int):=by omega
  first
   |(rw[Mv v]at i;exact absurd i (by decide))
   |(simp at i;omega)
 cases m with
 |cons x z =>
  cases z;cases x with
  |list A f=>exact⟨_,_,b,rfl,rfl,A,kJ b _ f,g⟩
theorem ye(l:OpenLaw)(args:List WData):l.row.toRowW.claim.post args (.bool true) args=true :=
 postW_of
  (show WShape.has [] (.bool true) .bool=true by first|rfl|decide|simp[WShape.has,WShape.arms,WShape.armsAll])
  (show(WTm.eq .res (.lit (.bool true))).value [] {args:=args,res:=some (.bool true),after:=args}=some (.bool (true==true))from w_eq_bool (w_res rfl) w_lit) rfl
theorem uI{l:OpenLaw}
  (S:l.most=some n) (z:d.params.defaults=[])
  (u:∀(w:World)(c b:Shared)(v C:Str->Option Value)(s:Addr)(o:Obj)(A x h:Value)(a:Addr)(i:List Value)(y:List Int),Ground q e [] M w c v C b.heap->L w b.heap -> b.heap.get? s=some o->o.data=.func (docDef d.name d.params d.body d.scope A x h)->b.heap.CodeRec x d.name->v d.name=some (.ref s) -> b.heap.get? a=some {cls:=.type "list",data:=.seq i.toArray}->IntsAre i y->y.length<=n->b.gens= #[] -> codeAny (model l.prog w) callerA (.call (.ref s) ⟨[.ref a],[]⟩) (λr s' =>r=.ok (.ret (.bool true))/\OldK b.heap s'.heap/\s'.os=b.os/\AllBare s'.gens) b) :
  WalkO q e M L l.row.toRowW d [] (λf i=>PySem.call f i):=by
 intro w c b v C G Y s o A x h Z T ho U D J H hg args N as j I R E Q;obtain rfl:Z=.none:=Dflts.none J z;obtain rfl:T=.none:=Dflts.noKw J;obtain⟨a,i,y,rfl,rfl,p,g,m⟩:=yY S j E;refine enter_call (Pg (u w c b v C s o A x h a i y G Y ho (fd_plain U) D H p g m hg) λr s' hq=> ?_);obtain⟨rfl,O,X,W⟩:=hq;exact⟨.inl ⟨.bool true,.bool true,[],rfl,λ_=>rfl,.bool true,ye l _,λ_=>⟨List.Pairwise.nil,λ_ hm=>(nomatch hm)⟩⟩,O,X,W⟩
end Att
namespace L2
open PySem PySem.Spec PyProof.Rows
set_option tactic.hygienic false
theorem yM(h:IntsAre b a):aM (a.map V.int) b:=by
 induction h with
 |nil=>exact .nil|cons n t h c=>exact .cons ⟨t,rfl⟩ c
def Jm(H:Hp):Prop:=∀b,H b=none\/∃o a,H b=some (.frz o (.lst a))
theorem Ba{P:Program}{K:W.Frag}{CX:uU}{k:Nat}
  (KX:K.In c.heap) (L:c.heap.Ns mainGlobals C) (g:c.heap.Ns builtinsNs X) (Y:∀x:Str,x≠"__name__"->X x=bootBuiltins x) (D:c.heap.NoLimit) (hg:c.gens= #[])
  (S:c.heap.get? a=some {cls:=.type "list",data:=.seq y.toArray}) (hi:IntsAre y N) (hl:N.length<=sizeLine) (hr:fH k callerA)
  (F:∀i:Heap,K.In i->i.Ns mainGlobals C->bQ P w K C i CX k fa fd [x] sp) (A:∀(s:Shared)(u:Value),BindsTo s fd ⟨[u],[]⟩ [(x,u)])
  (T:∀H:Hp,Jm H->bH K H a (N.map V.int)->sp [.ref a] H (λv _=>v=.bl true) λ_ _ _=>False)
  (U:∀H e j,CX [] H c (λ_ _ _=>False) e j ->False) :
  codeAny (model P w) callerA (.call (.ref fa) ⟨[.ref a],[]⟩) (λr j =>r=.ok (.ret (.bool true))/\OldK c.heap j.heap/\j.os=c.os/\AllBare j.gens) c:=by
 have rv:=yM hi;have LL:=hi.length
 have p:∀H,Jm H->bH K H a (N.map V.int)->eI P w H c.heap->(∀b,H b≠none->b=a)->(H a≠none->K.lookup a=none) -> codeAny (model P w) callerA (.call (.ref fa) ⟨[.ref a],[]⟩) (λr j =>r=.ok (.ret (.bool true))/\OldK c.heap j.heap/\j.os=c.os/\AllBare j.gens) c:=by
  intro H hO hS O hA hK;have f:∀{b:Addr}{o:Obj},c.heap.get? b=some o->H b=none->(pe c.heap H).get? b=some o:=λe n=>Bw e n;have GC:∀{b:Addr}{o:Obj}{M:Array DictEntry}{R:Nat},c.heap.get? b=some o->o.data=.dict M R->H b=none:=λ{b o M R} e d=>by
   cases q:H b with
   |none=>rfl|some u =>have Z :=hA b (by rw[q];simp);subst Z;rw[S]at e;cases e;have d' :=d;cases d'
  have l:∀{b:Addr}{m:Str->Option Value},c.heap.Ns b m->(pe c.heap H).Ns b m:=λ{b m} ⟨o,M,R,e,d,r⟩=>⟨o,M,R,f e (GC e d),d,r⟩
  have J:=λb o e=>f (KX b o e) (by
   cases q:H b with
   |none=>rfl|some u =>have Z :=hA b (by rw[q];simp);subst Z;rw[hK (by rw[q];simp)]at e;cases e)
  have hM:Mod K C (pe c.heap H):=⟨J,l L,⟨X,l g,Y⟩,let⟨mc,h1,h2⟩:=D;⟨mc,l h1,h2⟩⟩;have e0:zZ P w K C (pe c.heap H) callerA [] c H:=⟨rfl,hM,λb o e=>EL e,Nat.le_of_eq (zC _ _),trivial,λb g=>absurd (show b∈([]:List Addr)from g) (by simp),O,.of_eq hg⟩;refine Pg ((F _ J (l L)).run callerA [] c H ⟨[.ref a],[]⟩ [.ref a] [.ref a] _ _ hr e0 (A c (.ref a)) (.cons rfl .nil) (T H hO hS)) λr j h=> ?_;cases r with
  |error e=>exact(U H e j h).elim|ok fl =>
   cases fl with
   |next=>exact False.elim h|brk=>exact False.elim h|cont=>exact False.elim h|ret u =>
    obtain⟨v,H',os,I,un,Q,r',q⟩:=h;have q' :=q;subst q';obtain rfl:u=Value.bool true:=r';refine⟨rfl,OldK.of_keep λb o e=> ?_,os,I⟩;cases q:H b with
    |none=>exact un.keep b o e q (by intro z;exact absurd (show b∈([]:List Addr)from z) (by simp)) (by simp)|some u =>
     rcases hO b with z|⟨ob,xs,z⟩
     .rw[q]at z;cases z
     .obtain⟨e1,_⟩:=O b _ z;obtain⟨e2,_⟩:=Q b _ (un.frzs b ob _ z);rw[e]at e1;cases e1;exact e2
 cases hk:K.lookup a with
 |some o =>have e:=KX a o hk;rw[S]at e;cases e;refine p (λ_=>none) (λ_=>.inl rfl) (.inr ⟨_,y.toArray,_,hk,rfl,rfl,rfl,by rwa[Me,LL],by simpa using rv⟩) (λb u z=>by have E :=z;cases E) (λb z=>absurd rfl z) λz=>absurd rfl z
 |none =>
  refine p (λb=>if b=a then some (.frz {cls:=.type "list",data:=.seq y.toArray} (.lst (N.map V.int)))else none) (λb=> ?_) (.inl (.inr ⟨{cls:=.type "list",data:=.seq y.toArray},Ma rfl⟩)) (λb u z=> ?_) (λb z=> ?_) λ_=>hk
  .by_cases g:b=a
   .exact .inr ⟨_,_,Ma g⟩
   .exact .inl (MY g)
  .by_cases g:b=a
   .have E :=(Ma g).symm.trans z
    cases E;subst g;exact⟨S,by rwa[MT],y,_,rv,S⟩
   .have E :=(MY g).symm.trans z
    cases E
  .by_cases g:b=a
   .exact g
   .exact absurd (MY g) z
theorem DM{l:W.OpenLaw}{n k:Nat}{K:Params->W.Frag}{CX:World->uU}{sp:World->Sp}{x:Str}
  (L:l.most=some n) (C:n<=sizeLine) (r:d.params.defaults=[]) (J:fH k callerA)
  (O:∀(w:World)(h:Heap),E w h->(K w.params).In h)
  (F:∀(w:World)(j:Str->Option Value)(m:Addr)(h:Heap),(K w.params).In h->h.Ns mainGlobals j->j d.name=some (.ref m) -> ∃D:FuncData,(∀(s:Shared)(u:Value),BindsTo s D ⟨[u],[]⟩ [(x,u)]) /\ ∀c:Heap,(K w.params).In c->c.Ns mainGlobals j->bQ l.prog w (K w.params) j c (CX w) k m D [x] (sp w))
  (y:∀(w:World)(H:Hp)(a:Addr)(p:List Int),p.length<=n->Jm H->bH (K w.params) H a (p.map V.int)->sp w [.ref a] H (λv _=>v=.bl true) λ_ _ _=>False)
  (z:∀(w:World)(H:Hp)(s:Shared)(e:Value)(A :Shared),CX w [] H s (λ_ _ _=>False) e A ->False) :
  W.WalkO q i N E l.row.toRowW d [] (λf vs=>PySem.call f vs):=by
 refine Att.uI L r λw s₀ s₁ j mb m o pm cd doc a vs p G Y ho hd hcd hmg hobj hints hlen hg=> ?_;have I:=O w _ Y;obtain⟨D,M,Q⟩:=F w j m _ I G.T.g hmg;exact Ba I G.T.g G.T.b G.T.builtins G.T.nolimit hg hobj hints (M8 hlen C) J Q M (λH hO hS=>y w H a p hlen hO hS) λH e A =>z w H s₁ e A
abbrev iw:uU:=λ_ _ _ _ _ _=>False
abbrev E0:XK:=λ_ _ _=>False
theorem K7:wB iw X E0:=λ_ _ _ _ _ _ _ h=>h.elim
structure KC(K:W.Frag)(x qual:Str)(st:Stmt)(f:Addr)(fd:FuncData):Prop where
 ex:∃(oc:Value)(od:Option Addr)(kV doc pm:Value)(an:Option Addr)(cdv ct:Value)(osl:Array (Option Value)),
  fd=W.fnOf x qual (cX st) (aa st) (aJ st) .none kV doc pm an cdv ct/\K.lookup f=some ⟨oc,od,.func fd,osl⟩/\W.codeIn K cdv qual=true
 kp:W.keepIn K (.ref f)=true
section
variable{P:Program}{w:World}{K:W.Frag}{mg:Str->Option Value}{base:Heap}
theorem KC.ok{qual:Str}{k:Nat}(F:KC K x qual e f m)(S:az N i (aJ e))(j:∀c H Q E,l c H Q E->c.length=i.length)
  (d:∀(b:Value)(A:Around)(a:List Env)(s:Shared)(H:Hp)(c:List V)(Q:VK)(E:XK),fH k (A.deeper (envOfC qual (aJ e) s.heap.objs.size f b))->l c H Q E -> ∃t,qK (iS iw P w K mg base N qual (aJ e) f b A a s H E).nox (aa e) t/\t {nx:=λ_ H' =>Q .non H',rt:=Q} (start N c) H):bQ P w K mg base iw (k+1) f m i l:=by
 obtain⟨r,v,y,o,u,z,b,ct,n,rfl,p,g⟩:=F.ex;refine GH p g S j λA a s H c Q E hr hsp=> ?_;obtain⟨t,h,q⟩:=d b A a s H c Q E hr hsp;exact⟨t,h.nox,q⟩
theorem KC.binds{qual:Str}(F:KC K x qual c f l)
  (h:∀(g a d:Value)(j:Option Addr)(b ct:Value)(e:List Value),e.length=i.length->bindArgs (W.fnOf x qual (cX c) (aa c) (aJ c) .none g a d j b ct) ⟨e,[]⟩=pure (i.zip e)):Binds K l i []:=by
 obtain⟨o,p,g,a,d,j,b,ct,n,rfl,q,m⟩:=F.ex;exact .all (h g a d j b ct)
theorem Bz{qual:Str}{ct:Value}(l:K.lookup f=some ⟨m,j,.func (W.fnOf x qual (cX b) (aa b) (aJ b) .none i d h g a ct),e⟩)
  (c:W.codeIn K a qual=true) (k:W.keepIn K (.ref f)=true):KC K x qual b f (W.fnOf x qual (cX b) (aa b) (aJ b) .none i d h g a ct):=⟨⟨m,j,i,d,h,g,a,ct,e,rfl,l,c⟩,k⟩
end
theorem GG{A:Around}{k:Nat}(a:fH k A):A.units+1<cLine:=Pq (Nat.add_le_add_left (by decide:1<=64) _) a.units
section
variable{X:Cx}
theorem pv(i:Nat)(c:X.N[i]? =some x:=by rfl)(d:J9 X.env.scope x:=by first|exact Or.inl rfl|exact Or.inr (Or.inl rfl)|exact Or.inr (Or.inr rfl))(b:(x==("__debug__":Str))=false:=by decide)
  (a:(x==("__classdict__":Str))=false:=by decide):PE X (.Name x pos) (KZ i):=uv c d b a
end
theorem sf{A B:Prop}(h:B):if false=true then A else B:=by exact h
theorem sd{A B:Prop}(h:A):if true=true then A else B:=by exact h
theorem Ef{c A B:Prop}[Decidable c](b:c->A)(a:¬c->B):if c then A else B:=by
 by_cases h:c
 .rw[Ma h]
  exact b h
 .rw[MY h]
  exact a h
def aD(H a :Hp):Prop:=∀b o,H b=some o->a b=some o
theorem aD.refl(H:Hp):aD H H:=λ_ _ h=>h
theorem aD.trans(a:aD H e)(b:aD e d):aD H d:=λc o h=>b c o (a c o h)
theorem aD.free(e:aD H a)(h:a l=Option.none):H l=Option.none:=by
 cases q:H l with
 |none=>rfl|some o =>rw[e l o q]at h;cases h
theorem aD.seq{K:W.Frag}(e:aD H b)(h:bH K H a c):bH K b a c:=by
 rcases h with(h|⟨o,h⟩)|h
 .exact .inl (.inl (e _ _ h))
 .exact .inl (.inr ⟨o,e _ _ h⟩)
 .exact .inr h
end L2
namespace UM
open PySem PySem.Builtin PySem.Builtin.Str
theorem wO{x:Str}(h:x.cps.toList=y.cps.toList):x=y:=PySem.Str.ext' (Array.toList_inj.mp h)
structure MQ(m:Nat)(rows:List Str):Prop where
 some:rows≠[]
 few:rows.length<=m
 wide:∃k,1<=k/\k<=m/\∀r∈rows,r.length=k
 signs:∀r∈rows,∀c∈r.cps.toList,c=120\/c=46
end UM
namespace L2
open PySem PySem.Spec PyProof.Rows
def iU(a:Env):List (Str×NameKind)->List (Str×Addr)->List (Str×Addr)
 |[],acc=>acc|(n,k)::r,acc=>if(k==NameKind.free)=true then iU a r ((n,(a.cells.lookup n).getD 0)::acc)else iU a r acc
set_option tactic.hygienic false
theorem je{k:NameKind}(h:(k==NameKind.free)=true) :
  iU a ((n,k)::r) b=iU a r ((n,(a.cells.lookup n).getD 0)::b):=by
 show(if(k==NameKind.free)=true then _ else _)=_;rw[Ma h]
theorem gj{k:NameKind}(h:¬(k==NameKind.free)=true) :
  iU b ((n,k)::r) a=iU b r a:=by
 show(if(k==NameKind.free)=true then _ else _)=_;rw[MY h]
theorem tw(h:a.cells.lookup n=some c):cellOf a n=pure c:=by unfold cellOf;rw[h]
theorem vj{scope:Scope}(h:∀x∈scope.names,x.2=.free->∃c,b.cells.lookup x.1=some c):closureFor scope b=pure (iU b scope.names []):=by
 suffices q:∀l d,(∀x∈l,x.2=.free->∃c,b.cells.lookup x.1=some c) -> (forIn l d (λ x r=>if(x.2==NameKind.free)=true then(do let a<-cellOf b x.1;pure (ForInStep.yield ((x.1,a)::r)))else pure (ForInStep.yield r)):Sem (List (Str×Addr)))=pure (iU b l d)by
  exact(NG (λm=>m >>= pure) (q scope.names [] h)).trans (by rfl)
 intro l
 induction l with
 |nil=>intro d _;rfl|cons x l i =>
  intro d g;obtain⟨n,k⟩:=x;rw[List.forIn_cons]
  by_cases f:(k==NameKind.free)=true
  .obtain⟨c,j⟩:=g (n,k) MX (by simpa using f)
   rw[je f];simp only[f,PN];rw[tw j];have e:(b.cells.lookup n).getD 0=c:=by rw[show b.cells.lookup n=some c from j];rfl
   rw[e];exact i _ λy hy=>g y (MW _ hy)
  .rw[gj f]
   simp only[f];exact i _ λy hy=>g y (MW _ hy)
theorem eZ{a:Env}:∀{l:List (Str×NameKind)}{b:List (Str×Addr)}{x:Str}{c:Addr},(∀y∈l,y.2=.free->∃c,a.cells.lookup y.1=some c) -> (iU a l b).lookup x=some c->b.lookup x=some c\/a.cells.lookup x=some c
 |[],b,x,c,_,h=>.inl h|(n,k)::l,b,x,c,hl,h=>by
  have e :∀y∈l,y.2=.free->∃c,a.cells.lookup y.1=some c:=λy hy=>hl y (MW _ hy)
  by_cases g:(k==NameKind.free)=true
  .rw[je g]at h
   rcases eZ e h with q|q
   .rw[NS]at q
    cases f:(x==n)with
    |true =>
     have i:x=n:=by simpa using f
     subst i;obtain⟨m,j⟩:=hl (x,k) MX (by simpa using g);have d:=j;rw[d]at q
     right
     rw[d]
     simpa using q
    |false =>rw[f]at q;exact .inl q
   .exact .inr q
  .rw[gj g]at h
   exact eZ e h
theorem iT{env:Env}:∀{l:List (Str×NameKind)}{acc:List (Str×Addr)}{x:Str},((x,NameKind.free)∈l\/∃c,acc.lookup x=some c)->∃c,(iU env l acc).lookup x=some c
 |[],acc,x,h=>by
  rcases h with h|h
  .cases h
  .exact h
 |(n,k)::l,acc,x,h=>by
  by_cases a:(k==NameKind.free)=true
  .rw[je a]
   refine iT ?_
   rcases h with h|⟨c,h⟩
   .rcases Ml.mp h with e|e
    .right
     injection e with e1 e2
     subst e1;exact⟨(env.cells.lookup x).getD 0,by rw[NS];simp⟩
    .exact .inl e
   .right
    rw[NS];cases b:(x==n)with
    |true=>exact⟨_,rfl⟩|false=>exact⟨c,h⟩
  .rw[gj a]
   refine iT ?_
   rcases h with h|h
   .rcases Ml.mp h with e|e
    .injection e with e1 e2
     subst e2;exact absurd rfl a
    .exact .inl e
   .exact .inr h
section
variable{prog:Program}{w:World}{A:Around}{R:Result->Shared->Prop}{s:Shared}
theorem px{scope:Scope}(I:Nat->Shared->Prop)
  (j:∀n s,I n s->wpAny (model prog w) A (pyNext l) (λr s₁=>match r with
   |none=>R (.ok .next) s₁|some v=>wpAny (model prog w) A (letOwnedTupleGo b l v) (λ_ s₁' =>wpAny (model prog w) A (assign b a v) (λ_ s₂ =>
     wpAny (model prog w) A (forIn g true λc r=>if r=true then do let ok<-isTrue c a (eval c a);pure (ForInStep.yield ok)else pure (ForInStep.yield r)) (λok s₃ =>
      if ok=true then wpAny (model prog w) A (eval i a) (λx s₄ =>
       wpAny (model prog w) A (call (.builtin "list.append") [f,x]) (λ_ s₅=>∃m,m<n/\I m s₅) (notedBy (model prog w) A a λe s' =>R (.error e) s') s₄) (notedBy (model prog w) A a λe s' =>R (.error e) s') s₃ else∃m,m<n/\I m s₃) (notedBy (model prog w) A a λe s' =>R (.error e) s') s₂) (notedBy (model prog w) A a λe s' =>R (.error e) s') s₁')
       (notedBy (model prog w) A a λe s' =>R (.error e) s') s₁) (notedBy (model prog w) A a λe s' =>R (.error e) s') s)
  (n:Nat) (h:I n s) :
  codeAny (model prog w) A (.compLoop (.ListComp i [⟨b,d,g,0⟩] scope pos) 0 l f a) R s:=by
 refine codeAny_loop rfl I (λn s hI=> ?_) n h;refine wpAny_noted ?_;refine MS (wpAny_standAt (MS (No (j n s hI) (λr s₁ h₁=> ?_) λ_ _ h' =>h')));cases r with
 |none=>exact MV h₁|some v =>
  refine MS (No h₁ (λ_ s₁' h₁' => ?_) λ_ _ h' =>h');refine MS (No h₁' (λ_ s₂ h₂=>MS (No h₂ (λok s₃ h₃=> ?_) λ_ _ h' =>h')) λ_ _ h' =>h');cases ok with
  |false=>exact MV ⟨rfl,h₃⟩|true =>exact MS (MS (No h₃ (λx s₄ h₄=>MS (No h₄ (λ_ s₅ h₅=>MV (MV ⟨rfl,h₅⟩)) λ_ _ h' =>h')) λ_ _ h' =>h'))
end
abbrev bE(X:Cx)(e :List Str)(scope:Scope)(C:Addr)(b:Shared)(c:Hp)(d:List Addr)(a:List (Str×Addr)):Cx where
 prog:=X.prog
 w:=X.w
 K:=X.K
 mg:=X.mg
 base:=X.base
 A:=X.A
 N:=e
 s₀:=b
 H₀:=c
 env:=compEnvC scope a C X.env
 outer:=X.stack
 stack:=X.stack
 ex:=d
 fn:=λx=>scope.names.lookup x==some .cell
 calm:=X.calm
 pn:=[]
 xe:=λ_ _=>False
def bV(X:Cx)(scope:Scope):List Str->List (Option Nat)->Prop
 |[],[]=>True|_::ns,none::r=>bV X scope ns r|x::ns,some i::r=>(X.N[i]? =some x/\scope.names.lookup x=some .free/\(X.env.scope.names.lookup x=some .cell\/X.env.scope.names.lookup x=some .free))/\bV X scope ns r|_,_=>False
def bP(a:List (Option Nat))(b:St):St:=a.map λo=>match o with
 |none=>none|some i=>(b[i]?).join
theorem bV.len{X:Cx}{scope:Scope}:∀{b :List Str}{a:List (Option Nat)},bV X scope b a->a.length=b.length
 |[],[],_=>rfl|_::_,none::_,h=>NG (·+1) (bV.len (show bV X scope _ _ from h))|_::_,some _::_,h=>NG (·+1) (bV.len h.2)|[],_::_,h=>by cases h|_::_,[],h=>by cases h
theorem bV.at{X:Cx}{scope:Scope}{a:St}:∀{N' :List Str}{src:List (Option Nat)}{j:Nat}{x:Str}{v:V},bV X scope N' src->N'[j]? =some x->(bP src a)[j]? =some (some v) -> ∃i:Nat,X.N[i]? =some x/\a[i]? =some (some v)/\scope.names.lookup x=some .free/\(X.env.scope.names.lookup x=some .cell\/X.env.scope.names.lookup x=some .free)
 |[],[],j,x,v,_,h,_=>by simp at h|y::ns,none::r,0,x,v,_,_,h=>by simp[bP]at h|y::ns,none::r,j+1,x,v,s,h,h' =>bV.at (N' :=ns) (src:=r) (j:=j) s (by simpa using h) (by simpa [bP]using h')|y::ns,some i::r,0,x,v,s,h,h' =>by
  have e:y=x:=by simpa using h
  subst e;have q:(a[i]?).join=some v:=by simpa [bP]using h'
  refine⟨i,s.1.1,?_,s.1.2.1,s.1.2.2⟩;cases z:a[i]? with
  |none=>rw[z]at q;cases q|some o=>rw[z]at q;exact NG some q
 |y::ns,some i::r,j+1,x,v,s,h,h' =>bV.at s.2 (by simpa using h) (by simpa [bP]using h')|[],_::_,_,_,_,s,_,_=>by cases s|_::_,[],_,_,_,s,_,_=>by cases s
def zW(X:Cx)(b:List Expr)(t:TT):Prop :=
 ∀(a:List (Addr×Obj))(s:Shared)(d:St)(H:Hp)(Q:Bool->Hp->Prop),Inv X a d H s->t d H Q -> wpAny (model X.prog X.w) X.A (forIn b true λc r=>if r=true then do let ok<-isTrue c X.env (eval c X.env);pure (ForInStep.yield ok)else pure (ForInStep.yield r)) (TP X a d Q) X.xe s
def Fz:TT:=λ_ H Q=>Q true H
theorem lC:zW X [] Fz:=λ_ _ _ H _ I h=>wpAny_tests_nil ⟨H,I,h⟩
theorem lB{t:TT}(h:PT X c t):zW X [c] t:=λpins s σ H Q I hw=>wpAny_tests_one (h pins s σ H Q I hw)
def Jo(X:Cx)(e :List Str)(d:List (Option Nat))(scope:Scope)(a:Expr)(i:List Expr)(h:Expr)(D:Addr)(o:St)(x:V)(c:List V)(r :Hp)(N:List V->Hp->Prop):Prop :=
 ∀(C:Addr)(l:Shared)(m:Hp)(f:List Addr)(n:List (Str×Addr)),∃(g:TG)(p:TT)(q:TE),PG (bE X e scope C l m f n) a g/\zW (bE X e scope C l m f n) i p/\PE (bE X e scope C l m f n) h q /\ g x (bP d o) r λσ2 H3=>(σ2.length=e.length/\∀(j:Nat)(v:V),(bP d o)[j]? =some (some v)->σ2[j]? =some (some v)) /\ p σ2 H3 λb H4=>if b=true then q σ2 H4 λv H5=>H5 D=some (.lst c)/\c.length<sizeLine/\N (c++[v]) (upd H5 D (.lst (c++[v])))else N c H4
def Gi(X:Cx)(j :List Str)(b:List (Option Nat))(scope:Scope)(a:Expr)(c:List Expr)(d:Expr)(h:TI):TE:=λσ H Q=>h σ H λJ H1=>∀D,H1 D=none -> ∃W:Nat->Nat->List V->Hp->Prop,(∃m,W 0 m [] (upd H1 D (.lst [])))/\∀i m e H,W i m e H -> (J.stop i H/\Q (.ref D) H)\/(J.go i H/\∀x f,J.yld i H x f ->Jo X j b scope a c d D σ x e f λys' H'' =>∃g,g <m/\W (i+1) g ys' H'')
section
variable{X:Cx}{pins:List (Addr×Obj)}{σ:St}{H:Hp}{s:Shared}
structure zd(X:Cx)(scope:Scope)(C:Addr)(cl:List (Str×Addr)):Prop where
 ex:∃own,cl=own++iU X.env scope.names []/\(∀n c,(n,c)∈own->C<c/\scope.names.lookup n=some .cell)/\(∀x,(x,NameKind.cell)∈scope.names->∃c,own.lookup x=some c)/\own.Pairwise fun x y=>x.2≠y.2
theorem zd.sub{scope:Scope}(k:zd X scope C d)(a:∀y∈scope.names,y.2=.free->∃c,X.env.cells.lookup y.1=some c)(e:d.lookup x=some c) :
  (C<c/\scope.names.lookup x=some .cell)\/(scope.names.lookup x≠some .cell\/True)/\X.env.cells.lookup x=some c:=by
 obtain⟨b,rfl,f,g,i⟩:=k.ex;rw[OX]at e;cases z:b.lookup x with
 |some h =>rw[z]at e;cases e;exact .inl (f x c (NI z))
 |none =>
  rw[z]at e
  rcases eZ a e with q|q
  .cases q
  .exact .inr ⟨.inr trivial,q⟩
theorem FA{N':List Str}{scope:Scope}(I:Inv X pins σ H s)(i:scope.kind=.function)(k:zd X scope C E)
  (j:∀y∈scope.names,y.2=.free->∃c,X.env.cells.lookup y.1=some c) (r:s.heap.objs.size<=C) (O:∀b∈S,jt X pins H b) (D:∀b∈S,b<s.heap.objs.size):(bE X N' scope C s H S E).Ok:=by
 have u:=λx c e=>let⟨_,q⟩:=I.cell x c e;q.lt
 obtain⟨g,p,M,Y,h3⟩:=k.ex;have d:∀x c,E.lookup x=some c->(x,c)∈g\/X.env.cells.lookup x=some c:=λx c e=>by
  rw[p,OX]at e;cases z:g.lookup x with
  |some Q =>rw[z]at e;cases e;exact .inl (NI z)|none =>
   rw[z]at e
   rcases eZ j e with q|q
   .cases q
   .exact .inr q
 refine⟨I.ok.mod,i,I.ok.glob,I.ok.blt,r,λx y c e1 e2=> ?_,λx hx=> ?_,λx c h e=> ?_,I.ok.hd,I.ok.frames,.inl rfl,λb hb=>⟨?_,λx c e=> ?_⟩,I.bs,M8 I.ok.bsz I.sz,λb o e hb=> ?_,λb hb hs=> ?_,I.stack,I.stkFree⟩
 .rcases d x c e1 with J|J<;>rcases d y c e2 with w|w
  .exact PySem.name_of_addr h3 J w
  .exact absurd (Op (u y c w) (Pq r (M x c J).1)) (OK _)
  .exact absurd (Op (u x c J) (Pq r (M y c w).1)) (OK _)
  .exact I.ok.inj x y c J w
 .-- a name of the block's that is no local of it is one that it closes over,or has a cell of its g
  have R :=hx;have go:∀k,(k=NameKind.cell\/k=NameKind.free)->(relabel scope X.env).names.lookup x=some k->(x,NameKind.free)∈scope.names\/(x,NameKind.cell)∈scope.names:=λk hk e=>by
   obtain⟨⟨n,N⟩,T,Z⟩:=Md.mp (NI e)
   by_cases v:N =NameKind.free
   .subst v
    have f :(if(NameKind.free==NameKind.free&&X.env.scope.kind== .function&&X.env.kindOf n==some .cell)=true then(n,NameKind.cell)else(n,NameKind.free))=(x,k):=Z;have hn:n=x:=by split at f <;>exact(Prod.mk.inj f).1
    rw[<- hn];exact .inl T
   .have f :(if(N ==NameKind.free&&X.env.scope.kind== .function&&X.env.kindOf n==some .cell)=true then(n,NameKind.cell)else(n,N))=(x,k):=Z
    have U:(N ==NameKind.free)=false:=by simpa using v
    rw[U,Pt,Pt,MY MZ]at f;obtain⟨g1,g2⟩:=Prod.mk.inj f;subst g1 g2
    rcases hk with rfl|rfl
    .exact .inr T
    .exact .inl T
  have L:(x,NameKind.free)∈scope.names\/(x,NameKind.cell)∈scope.names->∃c,E.lookup x=some c:=by
   intro z;rw[p]
   rcases z with z|z
   .obtain⟨c,W⟩:=iT (.inl z)
    rw[OX];cases g.lookup x with
    |some Q =>exact⟨Q,rfl⟩|none=>exact⟨c,W⟩
   .obtain⟨c,W⟩:=Y x z
    exact⟨c,by rw[OX,W];rfl⟩
  rcases R with e|e
  .exact L (go _ (.inl rfl) e)
  .exact L (go _ (.inr rfl) e)
 .have h:scope.names.lookup x=some .cell:=by simpa using h
  obtain⟨Q,A⟩:=Y x (NI h);have e:E.lookup x=some c:=e;rw[p,OX,A]at e;cases e;exact M8 r (Os (M x c (NI A)).1)
 .exact λe=>absurd (D b hb) (by show¬b<_;rw[e];exact Nat.not_lt.mpr r)
 .rcases d x c e with q|q
  .exact λz=>absurd (Op (D b hb) (Pq r (M x c q).1)) (by rw[z];exact OK _)
  .exact(O b hb).2.2.2.2.1 x c q
 .rcases(O b hb).2.2.2.1 with q|q
  .exact I.ok.noex b o e q
  .exact absurd (Mi e) (Nat.not_lt.mpr (M8 I.ok.bsz q))
 .rcases Ml.mp (I.stkSub b hs)with q|q
  .exact(O b hb).2.1 q
  .exact(O b hb).2.2.1 q
theorem cF:∀(names:List (Str×NameKind))(n:Nat)(a b:List (Str×Addr)),cellsFrom n names (a++b)=cellsFrom n names a++b
 |[],_,_,_=>rfl|(x,k)::r,n,a,b=>by
  unfold cellsFrom
  split;exact cF r (n+1) ((x,n)::a) b;exact cF r n a b
set_option tactic.hygienic true in
theorem d7:∀(names:List (Str×NameKind))(n:Nat)(a:List (Str×Addr))(x:Str)(c:Addr),(x,c)∈cellsFrom n names a->(x,c)∈a\/(x,NameKind.cell)∈names
 |[],_,_,_,_,h=>.inl h|(y,k)::r,n,a,x,c,h=>by
  unfold cellsFrom at h
  split at h
  .rename_i b
   have b:k=.cell:=by simpa using b
   rcases d7 r (n+1) ((y,n)::a) x c h with q|q
   .rcases Ml.mp q with e|e
    .cases e
     rw[b];exact .inr MX
    .exact .inl e
   .exact .inr (MW _ q)
  .rcases d7 r n a x c h with q|q
   .exact .inl q
   .exact .inr (MW _ q)
theorem FL{scope:Scope}(a:∀y∈scope.names,y.2=.cell->scope.names.lookup y.1=some .cell)(h:Heap)(d:h.objs.size=C+1):zd X scope C (cellsFrom (C+1) scope.names (iU X.env scope.names [])):=by
 have b:=cellsFrom_ok scope.names h (C+1) [] ⟨λ_ _ hm=>(nomatch hm),List.Pairwise.nil⟩ (by rw[d];exact Mc _);rw[d]at b;refine⟨cellsFrom (C+1) scope.names [],by rw[<- cF];rfl,λn c hm=>⟨(b.empty n c hm).2,?_⟩,λx hx=> ?_,b.apart⟩
 .rcases d7 _ _ _ _ _ hm with q|q
  .cases q
  .exact a _ q rfl
 .have:=W.cellsFrom_some scope.names (C+1) [] (.inl (a _ hx rfl))
  exact Oi.mp this
theorem CG{A:Around}{scope:Scope}{globals:Addr}{qual:Str}
  (h:Q {scope:=scope,locals:=s.heap.objs.size,globals:=globals,cells:=cellsFrom (s.heap.objs.size+1) scope.names b,qual:=qual,func:=none,code:=a.code,frame:=a.frame,builtins:=a.builtins} {s with heap:=pushCells (s.heap.push {cls:=.type "dict",data:=.dict #[]}) scope.names}) :
  wpAny M A (newFunctionEnv scope globals b [] qual none .none (some a)) Q E s:=by
 simp only[newFunctionEnv,Option.isSome_some,PN];refine MS (wpAny_alloc ?_);refine MS (wpAny_layCells _ (λname kind cells=>by cases c:kind==NameKind.cell<;>simp[]) _ _ _ _ ?_);rw[show({s with heap:=s.heap.push {cls:=.type "dict",data:=.dict #[]}}:Shared).heap.objs.size=s.heap.objs.size+1 from OP ..];exact MS (MV (MV h))
end
theorem gz{a:Env}:∀{names:List (Str×NameKind)}{x:Str},names.lookup x=some .free -> (names.map λ(n,k)=>if(k==NameKind.free&&a.scope.kind== .function&&a.kindOf n==some .cell)then(n,NameKind.cell)else(n,k)).lookup x=some .cell \/ (names.map λ(n,k)=>if(k==NameKind.free&&a.scope.kind== .function&&a.kindOf n==some .cell)then(n,NameKind.cell)else(n,k)).lookup x=some .free
 |[],_,h=>by simp at h|(n,k)::r,x,h=>by
  have d:= @gz a r x;show List.lookup x ((if(k==NameKind.free&&a.scope.kind== .function&&a.kindOf n==some .cell)=true then(n,NameKind.cell)else(n,k))::_)=_\/List.lookup x ((if(k==NameKind.free&&a.scope.kind== .function&&a.kindOf n==some .cell)=true then(n,NameKind.cell)else(n,k))::_)=_;cases b:x==n with
  |true =>
   simp only[NS,b]at h;cases h
   by_cases c:(NameKind.free==NameKind.free&&a.scope.kind== .function&&a.kindOf n==some .cell)=true;left;rw[Ma c];simp only[NS,b];right;rw[MY c];simp only[NS,b]
  |false =>
   simp only[NS,b]at h
   by_cases c:(k==NameKind.free&&a.scope.kind== .function&&a.kindOf n==some .cell)=true;rw[Ma c];simp only[NS,b];exact d h;rw[MY c];simp only[NS,b];exact d h
section
variable{X:Cx}{pins:List (Addr×Obj)}{σ:St}{H:Hp}{s:Shared}
theorem va{scope:Scope}{tk:Nat}(I:Inv X pins σ H s)(j:scope.kind=.function)(k:zd X scope C w)
  (a:∀y∈scope.names,y.2=.free->∃c,X.env.cells.lookup y.1=some c) (g:bV X scope J n) (hf:∀b∈T,jt X pins H b) (a0:∀b∈T,b<s.heap.objs.size)
  (p:D=s.heap.objs.size) (S:s.heap.objs.size<C) (U:d.Ns C m) (f:∀b o,s.heap.get? b=some o->d.get? b=some o) (Q:d.get? D=some {cls:=.type "list",data:=.seq #[]})
  (a1:∀x c,w.lookup x=some c->C<c->∃v,d.IsCell c v) :
  Inv (bE X J scope C s H T w) [] (bP n σ) (upd H D (.lst [])) {s with heap:=d,toks:=tk}:=by
 have hn:H D=none:=by rw[p];exact I.hok.fresh (Mc _)
 have Y:D≠C:=by rw[p];exact Ms S
 refine⟨FA (N' :=J) I j k a (Os S) hf a0,rfl,I.bare,Un.laid f (by rw[p];exact Mc _) hn,⟨m,U,λj x v h1 h2 h3=> ?_⟩,λx c e=> ?_,?_,λx c e=> ?_,λp hp=>(by cases hp),I.hok.laid f (by rw[p];exact Mc _) ?_,?_⟩
 .obtain⟨i,e1,e2,W,h⟩:=g.at h1 h2
  obtain⟨m0,_,hl⟩:=I.loc;obtain⟨u,r,l⟩:=hl i x v e1 e2 (.inr h);refine⟨u,r,?_⟩;obtain⟨O,Z,o1,o2,o3⟩:=k.ex;have L:O.lookup x=none:=by
   cases z:O.lookup x with
   |none=>rfl|some c =>have:=(o1 x c (NI z)).2;rw[W]at this;cases this
  obtain⟨R,N⟩:=iT (acc:=[]) (.inl (NI W));have a2:X.env.cells.lookup x=some R :=by
   rcases eZ a N with q|q
   .cases q
   .exact q
  have E :w.lookup x=some R :=by rwa[Z,OX,L]
  rcases l with⟨hk,_⟩|⟨hk,c,hc,A⟩
  .have M :X.env.scope.names.lookup x=some .local:=hk
   rcases h with h|h
   .rw[M]at h;cases h
   .rw[M]at h;cases h
  .have ec:=Mx (a2.symm.trans hc)
   subst ec
   right
   exact⟨gz W,R,E,A.keeps f⟩
 .rcases k.sub a (show w.lookup x=some c from e)with q|q
  .exact a1 x c e q.1
  .obtain⟨v,z⟩:=I.cell x c q.2
   exact⟨v,z.keeps f⟩
 .show upd H D (.lst []) C=none
  rw[aA (Nd Y)];exact I.hok.fresh (Os S)
 .show upd H D (.lst []) c=none
  rcases k.sub a (show w.lookup x=some c from e)with q|q
  .have:=Op S q.1
   rw[aA (by rw[p];exact Ni this)];exact I.hok.fresh (Os this)
  .obtain⟨v,z⟩:=I.cell x c q.2
   rw[aA (by rw[p];exact Ms z.lt)];exact I.freeC x c q.2
 .exact⟨M6 _,[],0,.nil,Q⟩
 .show(n.map _).length=J.length
  rw[MT];exact g.len
theorem eI.but{P:Program}{h:Heap}(x:eI P w H h)(k:∀b u,H b≠none->h.get? b=some u->d.get? b=some u):eI P w H d :=λa o e =>
 (x a o e).stay (λb u c q=>k b u (by rcases c with rfl|c;(rw[e];simp);(rw[c];simp)) q) (λ_ q=>q) λ_ _ q=>q
def eW(a scope:Scope):Bool:=scope.names.all λy=> !(y.2==NameKind.free)||(a.names.lookup y.1==some .cell||a.names.lookup y.1==some .free)
theorem B3{scope:Scope}(h:eW a scope=true):∀y∈scope.names,y.2=.free->(a.names.lookup y.1=some .cell\/a.names.lookup y.1=some .free):=λy hy hf=>by
 have z:=Mn.mp h y hy;rw[hf]at z
 simpa using z
theorem xF{use:Option (Value->Sem Unit)}{P:Value->Shared->Prop}{scope:Scope}(hc:X.calm=true)(hi:PI X f D wi)(b0:bV X scope N' N)
  (a0:scope.kind=.function) (b2:∀y∈scope.names,y.2=.cell->scope.names.lookup y.1=some .cell) (a9:∀y∈scope.names,y.2=.local->scope.names.lookup y.1=some .local)
  (e6:eW X.env.scope scope=true)
  (hs:∀x,foldedSetIterable D X.env x=pure x) (I:Inv X pins σ H s) (h:Gi X N' N scope f S b3 wi σ H Q)
  (e':∀(C a:Addr)(l s4:Shared)(R H3:Hp)(M:List Addr)(O:List (Str×Addr))(m:Str->Option Value),Inv X pins σ R l->(∀b∈M,jt X pins R b)->(∀b,b<l.heap.objs.size->b≠C)->l.heap.objs.size<=C->Inv (bE X N' scope C l R M O) [] (bP N σ) H3 s4->s4.heap.Ns C m->Q (.ref a) H3->∀v,compPost (model X.prog X.w) X.A X.xe use P (.ref a) C (.ok v) s4) :
  wpAny (model X.prog X.w) X.A (comprehension (.ListComp b3 [⟨f,D,S,0⟩] scope pos) scope X.env (firstIterPos [⟨f,D,S,0⟩] pos) (newList []) (firstAsync [⟨f,D,S,0⟩]) (firstIter [⟨f,D,S,0⟩] X.env) use) P X.xe s:=by
 have L:∀y∈scope.names,y.2=.free->∃c,X.env.cells.lookup y.1=some c:=λy hy hf=>I.ok.has y.1 (B3 e6 y hy hf);refine wpAny_comprehension_free rfl hs (vj L) a0 a9 ?_;refine aj (hi pins s σ H _ I h) λxv s1 h1=>aj h1 λitv l h2=> ?_;obtain⟨it,M,tn,J,R,e,I2,T,b7,f2,q⟩:=h2;subst e;have a7:∀b∈M,b<l.heap.objs.size:=λb hb=>by obtain⟨o,e,_⟩:=T.obj _ _ b7 b hb;exact Mi e
 refine NC (CG ?_);dsimp only
 generalize b5:l.heap.push {cls:=.type "list",dict:=none,data:=.seq ([]:List Value).toArray}=G2
 have hC:G2.objs.size=l.heap.objs.size+1:=by rw[<- b5,OP]
 have c1:l.heap.objs.size<=G2.objs.size:=by rw[hC];exact O4 _
 have a4:l.heap.objs.size<G2.objs.size:=by rw[hC];exact Nat.lt_succ_self _
 have a2:∀b,b<l.heap.objs.size->b≠G2.objs.size:=λb hb=>by rw[hC];exact Ms (Np hb)
 obtain⟨O,U⟩:∃O,O=cellsFrom (G2.objs.size+1) scope.names (iU X.env scope.names []):=⟨_,rfl⟩;obtain⟨p,r⟩:∃p,p=pushCells (G2.push {cls:=.type "dict",data:=.dict #[]}) scope.names:=⟨_,rfl⟩;rw[<- U,<-r];have a1:(G2.push {cls:=.type "dict",data:=.dict #[]}).objs.size=G2.objs.size+1:=OP ..;have b':zd X scope G2.objs.size O:=by rw[U];exact FL b2 _ a1
 have a6:p.Ns G2.objs.size (λ_=>none):=by rw[r];exact(Heap.Ns.new G2 (.type "dict")).keeps (pushCells_keeps _ _)
 have d':∀b o,l.heap.get? b=some o->p.get? b=some o:=λb o e=>by rw[r];exact pushCells_keeps _ _ b o (MU _ (b5▸MU _ e))
 have c6:p.get? l.heap.objs.size=some {cls:=.type "list",data:=.seq #[]}:=by rw[r];exact pushCells_keeps _ _ _ _ (MU _ (b5▸Mg _ rfl))
 have e5:∀x c,O.lookup x=some c->G2.objs.size<c->∃v,p.IsCell c v:=λx c e hlt' =>by
  have e3:=cellsFrom_ok scope.names (G2.push {cls:=.type "dict",data:=.dict #[]}) (G2.objs.size+1) [] ⟨λ_ _ hm=>(nomatch hm),List.Pairwise.nil⟩ (by rw[a1];exact Mc _);rw[a1]at e3;have e1:O=cellsFrom (G2.objs.size+1) scope.names []++iU X.env scope.names []:=by rw[U,<-cF];rfl
  rw[e1,OX]at e;cases z:(cellsFrom (G2.objs.size+1) scope.names []).lookup x with
  |some c' =>rw[z]at e;cases e;exact⟨none,by rw[r];exact(e3.empty x c (NI z)).1⟩
  |none =>
   rw[z]at e
   rcases eZ L e with q|q
   .cases q
   .obtain⟨v,zc⟩:=I2.cell x c q
    exact absurd (Op zc.lt a4) (Nat.not_lt.mpr (Os hlt'))
 obtain⟨W,⟨m0,w0⟩,c2⟩:=q l.heap.objs.size (I2.hok.fresh (Mc _));have d1:=T.keep _ _ _ b7 λb hb o e=>d' b o e;have e2:∀b∈M,b∉uQ X.stack:=λb hb hz=>by
  rcases Ml.mp (I2.stkSub b hz)with z|z
  .exact(f2 b hb).2.1 z
  .exact(f2 b hb).2.2.1 z
 have e8:∀x c,O.lookup x=some c->G2.objs.size<c\/X.env.cells.lookup x=some c:=λx c e=>by
  rcases b'.sub L e with q|q
  .exact .inl q.1
  .exact .inr q.2
 have a3:∀{H' :Hp},(∀b∈M,H' b=none)->∀b∈M,jt (bE X N' scope G2.objs.size l R M O) [] H' b:=λhn b hb =>⟨hn b hb,a2 b (a7 b hb),e2 b hb,.inl hb,λx c e=>(by rcases e8 x c e with q|q;(exact λz=>absurd (Op (a7 b hb) (Op a4 q)) (by rw[z];exact OK _));exact(f2 b hb).2.2.2.2.1 x c q),λp hp=>by cases hp⟩
 have a':∀s3,s3={l with heap:=p} -> codeAny (model X.prog X.w) X.A (.compLoop (.ListComp b3 [⟨f,D,S,0⟩] scope pos) 0 (.ref it) (.ref l.heap.objs.size) (compEnvC scope O G2.objs.size X.env))
    (compPost (model X.prog X.w) X.A X.xe use P (.ref l.heap.objs.size) G2.objs.size) s3:=by
  rintro s3 rfl
  refine px (λn s' =>∃i ys H',Inv (bE X N' scope G2.objs.size l R M O) [] (bP N σ) H' s' /\tn i s'.heap/\(∀b∈M,H' b=none)/\W i n ys H') ?_ m0
   ⟨0,[],_,va I2 a0 b' L b0 f2 a7 rfl a4 a6 d' c6 e5,d1,λb hb=>by rw[aA (Ms (a7 b hb))];exact(f2 b hb).1,w0⟩
  rintro n s' ⟨i,ys,H3,I3,c7,c0,w3⟩
  rcases c2 i n ys H3 w3 with⟨d2,qn⟩|⟨go,e0⟩
  .refine aj (T.done (bE X N' scope G2.objs.size l R M O) rfl rfl rfl hc i [] s' _ H3 _ I3 (a3 c0) c7 d2) λr s4 hpq=> ?_
   obtain⟨hr,I4⟩:=hpq;subst hr;obtain⟨m,hn,_⟩:=I4.loc;exact e' _ _ l s4 R H3 M O m I2 f2 a2 c1 I4 hn qn _
  .refine aj (T.item (bE X N' scope G2.objs.size l R M O) rfl rfl rfl hc i [] s' _ H3 _ I3 (a3 c0) c7 go) λr s4 hpq=> ?_
   obtain⟨u,hr,h4⟩:=hpq;subst hr;refine aj h4 λ_ s5 hpq=> ?_;obtain⟨x,H5,I5,r5,y5,b6,f1⟩:=hpq;obtain⟨g,tt,te,hg,ht,he,rd⟩:=e0 x H5 y5 G2.objs.size l R M O;have e4 :=I5.pinned (a3 f1) (T.obj _ _ b6);have a8:∀{α:Type}{t:Sem α}{Q' :α->Shared->Prop}{s' :Shared}{E:Value->Shared->Prop},wpAny (model X.prog X.w) X.A t Q' (λ_ _=>False) s' ->wpAny (model X.prog X.w) X.A t Q' E s' :=λz=>No z (λ_ _ y=>y) λ_ _ y=>y.elim
   have Y:∀{a5:St}{H7:Hp}{s7:Shared}{b1 :List V},Inv (bE X N' scope G2.objs.size l R M O) ([]++lA M s5.heap) a5 H7 s7->(a5.length=N'.length/\∀j v,(bP N σ)[j]? =some (some v)->a5[j]? =some (some v)) -> (∃m',m' <n/\W (i+1) m' b1 H7)->∃m,m<n/\∃i ys H',Inv (bE X N' scope G2.objs.size l R M O) [] (bP N σ) H' s7/\tn i s7.heap/\(∀b∈M,H' b=none)/\W i m ys H' :=λ{a5 H7 s7 b1} I7 Z ⟨m',hm,w7⟩=>by refine⟨m',hm,i+1,b1,H7,(I7.unpinned).weak (by rw[show(bP N σ).length=N'.length by(show(N.map _).length=_;rw[MT];exact b0.len)];exact Z.1.symm) Z.2,T.keep _ _ _ b6 λb hb o e=>(I7.pin (b,o) (NY _ (NY _ (el hb e)))).1,λb hb=> ?_,w7⟩;obtain⟨o,e,d⟩:=T.obj _ _ b6 b hb;exact(I7.pin (b,o) (NY _ (NY _ (el hb e)))).2.1
   refine a8 (aj (hg _ s5 _ H5 x u _ e4 r5 rd) λ_ s6 hpq=> ?_);obtain⟨b4,H6,I6,Z,q6⟩:=hpq;refine a8 (aj (ht _ s6 b4 H6 _ I6 q6) λb s7 hpq=> ?_);obtain⟨H7,I7,q7⟩:=hpq;cases b with
   |false=>exact Y I7 Z q7|true =>rw[Ma rfl]at q7 ⊢;refine a8 (aj (he _ s7 b4 H7 _ I7 q7) λy s8 hpq=> ?_);obtain⟨v,H8,I8,r8,f0,e9,q8⟩:=hpq;refine a8 (aj (nj _ s8 b4 H8 (.ref l.heap.objs.size) [v] (.ref l.heap.objs.size) [y] (λ_ H9=>∃m',m' <n/\W (i+1) m' (ys++[v]) H9) I8 rfl (.cons r8 .nil) ⟨_,_,_,rfl,rfl,f0,e9,q8⟩) λ_ s9 hpq=> ?_);obtain⟨_,H9,I9,_,q9⟩:=hpq;exact Y I9 Z q9
 exact codeAny_compStart_list (a' _ rfl) (T.self X.A 0 _ _ _ d1 (a' _ rfl))
theorem A8{scope:Scope}{N':List Str}{src:List (Option Nat)}(M:X.calm=true)(O:PI X c d J)(q:bV X scope N' src)
  (i:scope.kind=.function) (l:∀y∈scope.names,y.2=.cell->scope.names.lookup y.1=some .cell) (g:∀y∈scope.names,y.2=.local->scope.names.lookup y.1=some .local)
  (v:eW X.env.scope scope=true)
  (N:∀x,foldedSetIterable d X.env x=pure x:=by intro _;rfl) :
  PE X (.ListComp p [⟨c,d,r,0⟩] scope pos) (Gi X N' src scope c r p J):=by
 intro E s R H Q I h;refine xF M O q i l g v N I h λC a s2 s4 H2 H3 fp cl m I2 f2 below hCle I4 hn qn _=> ?_;refine⟨m,hn,λh' hs' => ?_⟩;have A:∀b o,s2.heap.get? b=some o->b≠C:=λb o e=>below b (Mi e);have j:=I4.base
 have L:Un (uQ X.stack) fp H2 H3 s2.heap h' :=⟨λb o e n z1 z2=>(hs'.2 b (A b o e)).trans (j.keep b o e n z1 z2),λb o e n z1 z2=>let⟨sl,z⟩:=j.slot b o e n z1 z2;⟨sl,(hs'.2 b (A b o e)).trans z⟩,j.free,λb o e z=>let⟨o',z'⟩:=j.there b o e z;⟨o',(hs'.2 b (A b o e)).trans z'⟩,j.tups,j.frzs,j.tbls⟩
 have D:=eI.but I4.hok λb u hb z=>(hs'.2 b (λw=>hb (by rw[w];exact I4.free))).trans z;exact⟨.ref a,H3,I2.call' I4.os L D I4.bare λb hb=>⟨(f2 b hb).2.2.2.1,(f2 b hb).2.1,(f2 b hb).2.2.2.2.1,(f2 b hb).2.2.2.2.2⟩,rfl,qn⟩
end
section
variable{X:Cx}
theorem all_range(d:List Bool):(List.range d.length).all (λi=>d.getD i true)=d.all id:=by
 rw[NU,Mn,Mn]
 constructor
 .intro h b f
  obtain⟨i,c,e⟩:=List.mem_iff_getElem.mp f;have z:=h i (ND.mpr c);rwa[Mf,Mk c,e]at z
 .intro h i c
  have a :=ND.mp c;rw[Mf,Mk a];exact h _ (OI a)
theorem uX{a:List Bool}(r:aM (a.map V.bl) b){i:Nat}{v:Value}(e:b[i]? =some v):v=.bool (a.getD i true):=by
 have f:=r.length;rw[MT]at f;have h:=(Mh.mp e).1;have g:(a.map V.bl)[i]? =some (.bl (a.getD i true)):=by rw[Mp,Mf,Mk (by omega)];rfl
 obtain⟨u,c,d⟩:=r.get g;rw[e]at c;cases c;exact d
theorem t9(hc:X.calm=true):bA X (.builtin "all") (λxs H Q=>∃(p:Addr)(bs:List Bool),xs=[.ref p]/\bH X.K H p (bs.map V.bl)/\Q (.bl (bs.all id)) H):=by
 intro pins s σ H xs us Q I r h;obtain⟨p,bs,rfl,hq,q⟩:=h;obtain⟨u,rfl,rx⟩:=vals1 r;cases rx;obtain⟨its,r',pl,hz⟩:=I.list hq;have hlen:=r'.length;rw[MT]at hlen;have hp:p<s.heap.objs.size:=by obtain⟨o,e,_⟩:=pl.isList;exact Mi e
 refine call_all_walk (P5 pl.isList ?_);refine⟨s.heap.objs.size,_,_,its.toArray.size,_,_,(λi=>bs.getD i true),rfl,Walks.list (A:=X.A.in1) (I.ok.hd hc) s.heap.objs.size p (Ms hp) its.toArray,⟨⟨_,Mg _ rfl,rfl,rfl⟩,pl.isList.push _⟩,?_,?_⟩
 .intro i v s' Q' E' hv hQ
  have e:=uX r' (by simpa using hv);subst e;exact N1 hQ
 .intro h' tk hk
  refine⟨.bl (bs.all id),H,I.kept (λb o e=>hk b o (by simpa using Ms (Mi e)) (MU _ e)),?_,q⟩;rw[Me,<-hlen,all_range];rfl
def MK(x:Str):It:=⟨λi _=>i<x.cps.size,λi H v H' =>H' =H/\∃c,x.cps[i]? =some c/\v=.str ⟨#[c]⟩,λi _=>i=x.cps.size⟩
def iStr(a:TE):TI:=λσ H R=>a σ H λx H1=>∃z,x=.str z/\R (MK z) H1
theorem gP{P:Program}{w:World}{K:W.Frag}{tg:Expr}{a:Addr}{n:Nat}{Pw:Nat->Value->Prop}{m:Nat->Heap->Prop}{J:It}(O:∀A:Around,A.handled=none->Walks P w A a [a] [a] n Pw m)
  (l:∀i h,m i h->∃(o:Obj)(p:String)(M:Array Value),h.get? a=some o/\o.cls=.type p/\o.data=.fields M/\["enumerate","zip","dict_itemiterator","dict_reverseitemiterator","odict_iterator","itertools.zip_longest","itertools.pairwise"].contains p=false)
  (S:∀i H,J.go i H->i<n) (r:∀i H,J.stop i H->i=n) (hy:∀i H v,Pw i v->∃x,RelV x v/\J.yld i H x H)
  (j:∀(A:Around)(i:Nat)(s:Shared)(Q:Value->Shared->Prop)(E:Value->Shared->Prop),m i s.heap->Q (.ref a) s->wpAny (model P w) A (pyIter (.ref a)) Q E s):nF P w K tg J [a] a m where
 mem:=by simp
 obj:=λi h g b hb=>by
  have e:b=a:=by simpa using hb
  subst e;obtain⟨o,p,M,e,_,d,_⟩:=l i h g;exact⟨o,e,λv z=>by rw[d]at z;cases z⟩
 keep:=λi h h' g k=>(O {callerA with handled:=none} rfl).frame i h h' g k
 item:=by intro X U N C R i f s σ H E I q g Y;obtain⟨Z,T,f2,L,D,u⟩:=q a (by simp);refine(O X.A (I.ok.hd R)).item i s _ _ (S i H Y) g λv h' tk hv st' kk=> ?_;obtain⟨x,rx,y⟩:=hy i H v hv;have I1:Inv X f σ H {s with heap:=h',toks:=tk}:=I.turned (λb o hb e=>kk b o (by simpa using hb) e) Z T L D u;obtain⟨o,p,M,e,c,d,nc⟩:=l (i+1) h' st';exact⟨_,rfl,oA e c d nc ⟨x,H,I1,rx,y,st',λb hb=>(q b hb).1⟩⟩
 done:=by intro X U N C R i f s σ H E I q g Y;obtain⟨Z,T,f2,L,D,u⟩:=q a (by simp);have e:=r i H Y;subst e;exact(O X.A (I.ok.hd R)).done s _ _ g λh' tk kk=>⟨rfl,I.turned (λb o hb e=>kk b o (by simpa using hb) e) Z T L D u⟩
 self:=j
theorem HU(A:PE X l n):PI X C l (iStr n):=by
 intro a s w H R I h;refine aj (A a s w H _ I h) λv s1 hpq=> ?_;obtain⟨x,j,f,y,z,rfl,q⟩:=hpq;obtain⟨t,rfl⟩:=y;have m:∀b∈[s1.heap.objs.size],jt X a j b:=λb hb=>by
  have e:b=s1.heap.objs.size:=by simpa using hb
  subst e;exact f.fpOk (Mc _) (f.hok.fresh (Mc _))
 have r:∀i H v,SignAt z i v->∃x,RelV x v/\(MK z).yld i H x H:=λi H v hv=>by obtain⟨c,u,e,rfl⟩:=hv;exact⟨.str ⟨#[c]⟩,⟨_,rfl⟩,rfl,c,e,rfl⟩
 cases p:z.cps.all (·<128)with
 |false =>
  refine wpAny_pyIter_wide p ?_
  refine⟨s1.heap.objs.size,[s1.heap.objs.size],λi h=>h.IsStrIter s1.heap.objs.size "str_iterator" z t i,MK z,j,rfl,f.kept λb o e=>MU _ e,gP (λA hA=>Walks.strWide hA _ z t) (λi h st=> ?_) (λi H g=>g) (λi H g=>g) r (λA i s Q E st h=>wpAny_pyIter_striter_wide st h),⟨_,Mg _ rfl,rfl,rfl⟩,m,q⟩
  obtain⟨o,e,c,d⟩:=st;exact⟨o,_,_,e,c,d,by decide⟩
 |true =>
  refine wpAny_pyIter_ascii p ?_
  refine⟨s1.heap.objs.size,[s1.heap.objs.size],λi h=>h.IsStrIter s1.heap.objs.size "str_ascii_iterator" z t i,MK z,j,rfl,f.kept λb o e=>MU _ e,gP (λA hA=>Walks.strAscii hA _ z t) (λi h st=> ?_) (λi H g=>g) (λi H g=>g) r (λA i s Q E st h=>wpAny_pyIter_striter_ascii st h),⟨_,Mg _ rfl,rfl,rfl⟩,m,q⟩
  obtain⟨o,e,c,d⟩:=st;exact⟨o,_,_,e,c,d,by decide⟩
def Itc(a c:Int)(n:Nat):It:=⟨λi _=>i<n,λi H x H' =>H' =H/\x=.int (a+i*c),λi _=>i=n⟩
def LP(a:TA):TI:=λσ H R=>a σ H λvs H1=>∃i j c:Int,vs=[.int i,.int j,.int c]/\c≠0/\c.natAbs<1073741824/\Builtin.Range.small i j c=true/\R (Itc i c (Builtin.Range.rangeSize i j c).toNat) H1
theorem o9(i j c:Int):0<=Builtin.Range.rangeSize i j c:=by
 unfold Builtin.Range.rangeSize
 split
 .split
  .have:=Int.ediv_nonneg (a:=j-i-1) (b:=c) (by omega) (by omega)
   omega
  .exact Int.le_refl _
 .split
  .by_cases d:c=0
   .subst d
    simp
   .have:=Int.ediv_nonneg (a:=i-j-1) (b:= -c) (by omega) (by omega)
    omega
  .exact Int.le_refl _
theorem yh(W:Gl X "range")(L:X.mg "range"=none)(N:PA X [a,b,c] D)(T:starEach [a,b,c] X.env=(false,eval a X.env)::starEach [b,c] X.env:=by rfl)
  (w:(backTo pos (starEach [b,c] X.env)).any (·.1)=false:=by rfl):PI X S (.Call (.Name "range" p) [a,b,c] [] pos) (LP D):=by
 intro d s C H R I h;refine Call_ (dB I W L boot_range (NX (aj (N pos d s C H _ I h) λus s1 ⟨vs,H1,I1,r1,q1⟩=> ?_) T w));obtain⟨i,j,k,e,U,A,z,q⟩:=q1;subst e;cases r1 with
 |cons r l =>
  cases l with
  |cons M l =>
   cases l with
   |cons x l =>
    cases l;obtain⟨t,rfl⟩:=r;obtain⟨n,rfl⟩:=M;obtain⟨f,rfl⟩:=x;refine call_range_3 U ?_ (.inl (PyProof.noPylong_small A));refine wpAny_pyIter_range (IsRange.new ..) z ?_;have y:Inv X d C H1 {s1 with heap:=s1.heap.push {cls:=.type "range",data:=.fields #[.int i t,.int j n,.int k f]}}:=I1.kept λb o e=>MU _ e
    refine⟨_,[_],_,_,H1,rfl,y.kept λb o e=>MU _ e,gP (λA hA=>Walks.range hA _ i k (Builtin.Range.rangeSize i j k).toNat) (λm h st=>⟨_,_,_,st,rfl,rfl,by decide⟩) (λm H g=>g) (λm H g=>g) (λm H v hv=> ?_) (λA m s Q E st h=>wpAny_pyIter_rangeiter st h),?_,λb hb=> ?_,q⟩
    .obtain⟨u,rfl⟩:=hv
     exact⟨.int (i+m*k),⟨_,rfl⟩,rfl,rfl⟩
    .have J:i+((0:Nat):Int)*k=i:=by simp
     have O:(((Builtin.Range.rangeSize i j k).toNat:Nat):Int)-((0:Nat):Int)=Builtin.Range.rangeSize i j k:=by have:=o9 i j k;omega
     rw[J,O];exact Mg _ rfl
    .have e:b=(s1.heap.push {cls:=.type "range",data:=.fields #[.int i t,.int j n,.int k f]}).objs.size:=by simpa using hb
     subst e;exact y.fpOk (Mc _) (y.hok.fresh (Mc _))
theorem Inv.drew{fp:List Addr}{o:HO}{t':Nat}(I:Inv X pins σ H s)(hf:∀b∈fp,jt X pins H b)(k:∀b ob,b∉fp->s.heap.get? b=some ob->h'.get? b=some ob)
  (hp:s.heap.objs.size<=p) (new:ah X.prog X.w (upd H p o) h' p o):Inv X pins σ (upd H p o) {s with heap:=h',toks:=t'}:=by
 have ne:∀b u,H b=some u->b≠p:=λb u e=>Ms (NH (I.hok.lt e) hp);have nf:∀b u,H b=some u->b∉fp:=λb u e hb=>by rw[(hf b hb).1]at e;cases e
 refine I.step (λb hb=>⟨(hf b hb).2.2.2.1,(hf b hb).2.1,(hf b hb).2.2.2.2.1,(hf b hb).2.2.2.2.2⟩) (λb ob _ _ hc e _=>k b ob hc e) (λb ob _ _ hc e _=>⟨ob.slots,k b ob hc e⟩)
  (λb ob hc e n=>by rwa[aA (Ms (NH (Mi e) hp))]) (λb ob hc e=>⟨ob,k b ob hc e⟩) (λb xs e=>by rwa[aA (ne b _ e)]) (λb ob u e=>by rwa[aA (ne b _ e)])
  (λb ps e=>⟨#[],by rw[aA (ne b _ e),e];simp⟩) (λm hm=> ?_) (λb u e=> ?_) I.bare
 .obtain⟨ob,es,ep,ho,r⟩:=hm
  exact⟨ob,es,ep,k _ _ (λhb=>(hf _ hb).2.1 rfl) ho,r⟩
 .by_cases hb:b=p
  .subst hb
   rw[aB]at e;cases e;exact new
  .rw[aA hb]at e
   refine(I.hok b u e).stay (λc v hc q=>k c v ?_ q) (λc q=>by rwa[aA (ne c _ q)]) (λc xs q=>by rwa[aA (ne c _ q)])
   rcases hc with rfl|hc
   .exact nf _ _ e
   .exact nf _ _ hc
theorem Inv.drew0{h:List Addr}{t':Nat}(I:Inv X d i H s)(g:∀b∈h,jt X d H b)(k:∀b a,b∉h->s.heap.get? b=some a->l.get? b=some a) :
  Inv X d i H {s with heap:=l,toks:=t'}:=by
 have j:∀b u,H b=some u->b∉h:=λb u e hb=>by rw[(g b hb).1]at e;cases e
 refine I.step (λb hb=>⟨(g b hb).2.2.2.1,(g b hb).2.1,(g b hb).2.2.2.2.1,(g b hb).2.2.2.2.2⟩) (λb a _ _ f e _=>k b a f e) (λb a _ _ f e _=>⟨a.slots,k b a f e⟩)
  (λb a f e n=>n) (λb a f e=>⟨a,k b a f e⟩) (λb xs e=>e) (λb a u e=>e) (λb ps e=>⟨#[],by rw[e];simp⟩) (λm hm=> ?_) (λb u e=> ?_) I.bare
 .obtain⟨a,m,o,p,r⟩:=hm
  exact⟨a,m,o,k _ _ (λhb=>(g _ hb).2.1 rfl) p,r⟩
 .refine(I.hok b u e).stay (λc v f q=>k c v ?_ q) (λc q=>q) (λc xs q=>q)
  rcases f with rfl|f
  .exact j _ _ e
  .exact j _ _ f
def Itz(K:W.Frag)(a b:Addr):It :=
  ⟨λi H=>∃d c x y,bH K H a d/\bH K H b c/\d[i]? =some x/\c[i]? =some y,λi H v H' =>∃p,H p=none/\v=.ref p/\∀d c x y,bH K H a d->bH K H b c->d[i]? =some x->c[i]? =some y->H' =upd H p (.tup [x,y]),λi H=>∃d c,bH K H a d/\bH K H b c/\(d.length<=i\/c.length<=i)⟩
def L7(z c e f d a b:Addr)(i:Nat)(h:Heap):Prop:=IsZip h z c e .none/\IsPair h c (.ref f) (.ref d)/\(∃u v,IsPair h e u v)/\h.IsListIter f a i/\h.IsListIter d b i
theorem AH{P:Program}{w:World}{K:W.Frag}{es:List Expr}{kt:Nat}{M:Pos}{z n p C J a b:Addr}(D:ZipApart z n p C J a b) :
  nF P w K (.Tuple es kt M) (Itz K a b) [z,n,p,C,J] z (L7 z n p C J a b) where
 mem:=by simp
 obj:=λi h j c f=>by
  obtain⟨m,d,⟨u,v,g⟩,⟨o1,T,_,d1⟩,⟨o2,e2,_,d2⟩⟩:=j;simp only[Ml,NJ,OV]at f
  rcases f with rfl|rfl|rfl|rfl|rfl
  .exact⟨_,m,λv z=>by cases z⟩
  .exact⟨_,d,λv z=>by cases z⟩
  .exact⟨_,g,λv z=>by cases z⟩
  .exact⟨_,T,λv z=>by rw[d1]at z;cases z⟩
  .exact⟨_,e2,λv z=>by rw[d2]at z;cases z⟩
 keep:=λi h h' j k=>by obtain⟨m,d,⟨u,v,g⟩,r,A⟩:=j;exact⟨k z (by simp) _ m,k n (by simp) _ d,⟨u,v,k p (by simp) _ g⟩,r.at λo e=>k C (by simp) o e,A.at λo e=>k J (by simp) o e⟩
 item:=by
  intro X Z hw U f i l s σ H E I Q j hg;subst Z hw U;obtain⟨xs,ys,x,y,R,S,ex,ey⟩:=hg;obtain⟨Y,ra,pa,_⟩:=I.list R;obtain⟨N,rb,pb,_⟩:=I.list S;obtain⟨u,eu,ru⟩:=ra.get ex;obtain⟨v,ev,rv⟩:=rb.get ey;obtain⟨m,d,⟨u0,v0,g⟩,r,A⟩:=j;refine wpAny_pyNext_zip_item D m d g r A pa.isList pb.isList (by simpa using eu) (by simpa using ev) λh' a1 a2 a3 a4 a5 a6 hk=> ?_;refine⟨_,rfl,wpAny_letOwnedTupleGo_zip a1 λh'' hz' hs' => ?_⟩;have O:=Mi m;have kk:∀c o,c∉[z,n,p,C,J]->s.heap.get? c=some o->h''.get? c=some o:=λc o f e=>by simp only[Ml,NJ,OV,Pd]at f;obtain⟨c1,c2,c3,c4,c5⟩:=f;exact(hs'.2 c c1).trans (hk c o c1 c3 c4 c5 e)
  have I1:Inv X l σ (upd H s.heap.objs.size (.tup [x,y])) {s with heap:=h''}:=I.drew Q kk (Mc _) ⟨by show 2<=sizeLine;decide,[u,v],.cons ru (.cons rv .nil),⟨_,(hs'.2 _ (Ni O)).trans a5,rfl,_,rfl,rfl⟩⟩;refine⟨.ref s.heap.objs.size,upd H s.heap.objs.size (.tup [x,y]),I1,rfl,⟨s.heap.objs.size,I.hok.fresh (Mc _),rfl,λxs' ys' x' y' sa' sb' ex' ey' => ?_⟩,⟨hz',(hs'.2 n D.TIz).trans (hk n _ D.TIz D.TITO D.TIi1 D.TIi2 d),⟨_,_,(hs'.2 p D.TOz).trans a2⟩,a3.at λo e=>(hs'.2 C D.i1z).trans e,a4.at λo e=>(hs'.2 J D.i2z).trans e⟩,λc f=> ?_⟩
  .have q1:=I.list_inj R sa'
   have q2:=I.list_inj S sb';subst q1 q2;rw[ex]at ex';rw[ey]at ey';cases ex';cases ey';rfl
  .rw[aA ?_]
   .exact(Q c f).1
   .intro e
    have lt:c<s.heap.objs.size:=by
     simp only[Ml,NJ,OV]at f;obtain⟨o1,T,_⟩:=id r;obtain⟨o2,e2,_⟩:=id A
     rcases f with rfl|rfl|rfl|rfl|rfl
     .exact O
     .exact Mi d
     .exact Mi g
     .exact Mi T
     .exact Mi e2
    exact absurd e (Ms lt)
 done:=by
  intro X Z hw U f i l s σ H E I Q j hg;subst Z hw U;obtain⟨xs,ys,R,S,L⟩:=hg;obtain⟨Y,ra,pa,_⟩:=I.list R;obtain⟨N,rb,pb,_⟩:=I.list S;obtain⟨m,d,⟨u0,v0,g⟩,r,A⟩:=j;have l1:=ra.length;have l2:=rb.length;refine wpAny_pyNext_zip_end (I.ok.hd f) D m d g r A pa.isList pb.isList ?_ λh' hk=>⟨rfl,I.drew0 Q λc o f e=> ?_⟩
  .rcases L with q|q
   .exact .inl (by simp;omega)
   .exact .inr (by simp;omega)
  .simp only[Ml,NJ,OV,Pd]at f
   exact hk c o f.1 f.2.2.1 f.2.2.2.1 f.2.2.2.2 e
 self:=λ_ _ _ _ _ j h=>wpAny_pyIter_zip j.1 h
def iZip(K:W.Frag)(e:TA):TI:=λσ H R=>e σ H λvs H1=>∃a b d c,vs=[.ref a,.ref b]/\bH K H1 a d/\bH K H1 b c/\R (Itz K a b) H1
theorem HR(T:Gl X "zip")(D:X.mg "zip"=none)(O:PA X [a,b] r)(Q:starEach [a,b] X.env=(false,eval a X.env)::starEach [b] X.env:=by rfl)
  (g:(backTo pos (starEach [b] X.env)).any (·.1)=false:=by rfl):PI X (.Tuple J M f) (.Call (.Name "zip" p) [a,b] [] pos) (iZip X.K r):=by
 intro d s l H R I h;refine Call_ (dB I T D boot_zip (NX (aj (O pos d s l H _ I h) λus s1 ⟨vs,H1,I1,r1,q1⟩=> ?_) Q g));obtain⟨E,A,Y,U,e,z,C,q⟩:=q1;subst e;obtain⟨u,v,rfl,y,L⟩:=vals2 r1;cases y;cases L;obtain⟨S,W,w,_⟩:=I1.list z;obtain⟨n,Z,m,_⟩:=I1.list C;have j:E<s1.heap.objs.size:=by obtain⟨o,e,_⟩:=w.isList;exact Mi e
 have i:A<s1.heap.objs.size:=by obtain⟨o,e,_⟩:=m.isList;exact Mi e
 refine call_zip_2 w.isList m.isList λh' hz hTI hTO hit1 hit2 hsz hk=> ?_;refine wpAny_pyIter_zip hz ?_;refine⟨s1.heap.objs.size+4,[s1.heap.objs.size+4,s1.heap.objs.size+2,s1.heap.objs.size+3,s1.heap.objs.size,s1.heap.objs.size+1],_,_,H1,rfl,I1.kept (t' :=s1.toks) hk,AH (zipApart_new j i),⟨hz,hTI,⟨_,_,hTO⟩,hit1,hit2⟩,λc hc=> ?_,q⟩;have x:s1.heap.objs.size<=c:=by
  simp only[Ml,NJ,OV]at hc
  rcases hc with rfl|rfl|rfl|rfl|rfl<;>omega
 exact I1.fpOk x (I1.hok.fresh x)
theorem BD:dJ X (binaryOp .FloorDiv) (rI (λ_ j=>0<j/\j.natAbs.log2<9000) λi j=>.int (i/j)):=Jx λi j _ _ _ _ _ hc q=>by have a:=hc.1;exact floordiv_int (by omega) (by rwa[Int.fdiv_eq_ediv_of_nonneg i (by omega)]) (.inl (PyProof.noPylong_of_log2 hc.2))
end
theorem aD.tup{K:W.Frag}{H b :Hp}{a:Addr}{c:List V}(e:aD H b)(h:bT K H a c):bT K b a c:=by
 rcases h with(h|⟨o,h⟩)|h
 .exact .inl (.inl (e _ _ h))
 .exact .inl (.inr ⟨o,e _ _ h⟩)
 .exact .inr h
theorem aI(h:H p=none)(o:HO):aD H (upd H p o):=λb u q=>by rwa[aA (aE q h)]
set_option tactic.hygienic true in
theorem aD.upd{H H' :Hp}{D:Addr}{o:HO}(e:aD H H')(h:H D=none):aD H (upd H' D o):=fun b u q=>by rw[aA (aE q h)];exact e b u q
def cy(z:Str):List V:=z.cps.toList.map λc=>V.str ⟨#[c]⟩
theorem kq(z:Str):(cy z).length=z.length:=by unfold cy;rw[MT,M0];rfl
def GF(n:Nat):List V:=(List.range n).map λi=>V.int (i:Nat)
section
variable{X:Cx}{N' :List Str}{scope:Scope}{elt:Expr}{σ:St}{H1:Hp}{J:It}{xs:List V}
theorem uD(h:r.length+1=N'.length) :
  ((bP (none::r) a).set 0 (some x)).length=N'.length/\∀(j:Nat)(v:V),(bP (none::r) a)[j]? =some (some v)->((bP (none::r) a).set 0 (some x))[j]? =some (some v):=by
 refine⟨by rw[OE];simp[bP,h],λj v e=> ?_⟩;cases j with
 |zero=>simp[bP]at e|succ j=>simpa [bP]using e
end
structure uT(K:W.Frag)(mg:Str->Option Value)(x:Str)(st:Stmt)(ps:List Str)(f:Addr)(fd:FuncData):Prop where
 fn:KC K x x st f fd
 nm:mg x=some (.ref f)
 bd:Binds K fd ps []
theorem F7{n:String}(b:Gl X x)(d:X.mg x=none)(c:bootBuiltins x=some (.type n))(a:x≠"__name__":=by decide)(e:(x==("__debug__":Str))=false:=by decide):PE X (.Name x pos) (tC (.ty n)) := EA b d c rfl a e
section
variable{K:W.Frag}
theorem fV(n:String):W.kitOne K (.type n) (.type n)=some true:=by unfold W.kitOne;rw[Ma (by simp)]
end
def LL:V->Nat
 | .str z=>z.length|_=>0
def wQ(K:W.Frag):Sp:=λvs H Q _=>∃(a:Addr)(b:List Int),vs=[.ref a]/\bH K H a (b.map V.int)/\b.length<=63/\∀c,Q (.bl true) c
section
variable{κ:Type}[DecidableEq κ]
def fE(a:List (κ×V))(k:κ):Option V:=(a.find? λkv=>decide (kv.1=k)).map (·.2)
def dv(a:List (κ×V))(k:κ)(v:V):List (κ×V) :=
 if(a.any λkv=>decide (kv.1=k))=true then a.map (λkv=>if kv.1=k then(kv.1,v)else kv)else a++[(k,v)]
theorem kX{k:κ}(e:p.1=k):fE (p::r) k=some p.2:=by simp[fE,e]
theorem kY{k:κ}(e:¬p.1=k):fE (p::r) k=fE r k:=by simp[fE,e]
theorem qj(k:κ):∀a:List (κ×V),(a.any λkv=>decide (kv.1=k))=(fE a k).isSome
 |[]=>rfl|p::r=>by
  rw[Pe]
  by_cases e:p.1=k;simp only[kX e,Mv e,Bool.true_or,Option.isSome_some];rw[kY e,Mt e,Bool.false_or];exact qj k r
theorem fU(a:List (κ×V))(k:κ)(v:V):(dv a k v).length<=a.length+1:=by
 unfold dv
 split;rw[MT];omega;rw[Mj,Mq,Of];omega
theorem jr.isSome_eq{o:Option V}(r:jr o u):o.isSome=u.isSome:=by
 cases o with
 |none=>cases u with
  |none=>rfl|some _=>exact(show False from r).elim
 |some _=>cases u with
  |none=>exact(show False from r).elim|some _=>rfl
theorem jr.getD{o:Option V}(r:jr o u)(b:RelV d a):RelV (o.getD d) (u.getD a):=by
 cases o with
 |none=>cases u with
  |none=>exact b|some _=>exact(show False from r).elim
 |some _=>cases u with
  |none=>exact(show False from r).elim|some _=>exact r
theorem KV.val(r:KV a g)(k:κ):jr (fE a k) (valueAt g k):=by
 induction r with
 |nil=>exact True.intro| @cons p q l d h t j =>
  obtain⟨f,i⟩:=h
  by_cases e:p.1=k
  .have c :=f.symm.trans e
   have b:valueAt (q::d) k=some q.2:=by simp[valueAt,c]
   rwa[kX e,b]
  .have c :¬q.1=k:=λz=>e (f.trans z)
   have b:valueAt (q::d) k=valueAt d k:=by simp[valueAt,c]
   rwa[kY e,b]
theorem KV.any(r:KV a b)(k:κ):(a.any λkv=>decide (kv.1=k))=b.any λkv=>decide (kv.1=k):=by
 induction r with
 |nil=>rfl|cons h t c=>rw[Pe,Pe,c,h.1]
theorem KV.repl(r:KV a c)(k:κ)(f:RelV y u) :
  KV (a.map λkv=>if kv.1=k then(kv.1,y)else kv) (c.map λkv=>if kv.1=k then(kv.1,u)else kv):=by
 induction r with
 |nil=>exact .nil| @cons p q i j h t g =>
  rw[Mm,Mm];refine .cons ?_ g;obtain⟨b,d⟩:=h
  by_cases e:p.1=k;rw[Ma e,Ma (b.symm.trans e)];exact⟨b,f⟩;rw[MY e,MY (λz=>e (b.trans z))];exact⟨b,d⟩
theorem KV.put(r:KV a b)(k:κ)(c:RelV y u):KV (dv a k y) (stored b k u):=by
 unfold dv stored;rw[r.any k]
 by_cases e:(b.any λkv=>decide (kv.1=k))=true
 .rw[Ma e,Ma e];exact r.repl k c
 .rw[MY e,MY e];exact Paired.snoc r ⟨rfl,c⟩
theorem KV.length{a:List (κ×V)}(r:KV a b):a.length=b.length:=Pp r
end
theorem sZ{P:Program}{k:ag}(r:RelV (kV k) u):(aW P w).is k u=true:=by
 cases k with
 |inl i=>obtain⟨t,e⟩:=(show∃t,u=Value.int i t from r);subst e;exact sR P w i t
 |inr x=>obtain⟨t,e⟩:=(show∃t,u=Value.str x t from r);subst e;exact sQ P w x t
theorem n6{P:Program}{w:World}:∀{a:List ag}{b:List Value},aM (a.map kV) b->ItemsAre (aW P w) a b
 |[],_,r=>by rw[OS]at r;cases r;exact .nil|k::a,_,r=>by
  rw[Mm]at r;cases r with
  |cons h t=>exact .cons (sZ h) (n6 t)
abbrev KT(H:Hp):List (List ag×V)->List (List ag×Addr×Value)->Prop:=Paired λp q=>p.1=q.1/\H q.2.1=some (.tup (p.1.map kV))/\RelV p.2 q.2.2
theorem KT.val(r:KT H a g)(k:List ag):jr (fE a k) ((atKey g k).map (·.2)):=by
 induction r with
 |nil=>exact True.intro| @cons p q l d h t j =>
  obtain⟨f,_,i⟩:=h
  by_cases e:p.1=k
  .have c :=f.symm.trans e
   have b:atKey (q::d) k=some q.2:=by simp[atKey,c]
   rwa[kX e,b]
  .have c :¬q.1=k:=λz=>e (f.trans z)
   have b:atKey (q::d) k=atKey d k:=by simp[atKey,c]
   rwa[kY e,b]
theorem KT.repl(r:KT H a d)(k:List ag)(i:RelV y u) :
  KT H (a.map λkv=>if kv.1=k then(kv.1,y)else kv) (d.map (putAt k u)):=by
 induction r with
 |nil=>exact .nil| @cons p q l j h t f =>
  rw[Mm,Mm];refine .cons ?_ f;obtain⟨b,c,g⟩:=h;unfold putAt
  by_cases e:p.1=k;rw[Ma e,Ma (b.symm.trans e)];exact⟨b,c,i⟩;rw[MY e,MY (λz=>e (b.trans z))];exact⟨b,c,g⟩
theorem KT.put(r:KT H a c)(k:List ag)(f:H b=some (.tup (k.map kV)))(d:RelV y u) :
  KT H (dv a k y) (storedH c k b u):=by
 have e:(a.any λkv=>decide (kv.1=k))=(atKey c k).isSome:=by rw[qj,(r.val k).isSome_eq,Option.isSome_map]
 unfold dv storedH;rw[e]
 by_cases q:(atKey c k).isSome=true;rw[Ma q,Ma q];exact r.repl k d;rw[MY q,MY q];exact Paired.snoc r ⟨rfl,f,d⟩
theorem KT.keeps(r:KT H a e)(f:∀b c,H b=some (.tup c)->d b=some (.tup c)):KT d a e := Paired.mapP r λ_ _ z=>⟨z.1,f _ _ z.2.1,z.2.2⟩
section
variable{P:Program}{w:World}{H:Hp}{h:Heap}{a:Addr}
theorem F5(b:eI P w H h)(e:Rd H a u):ah P w H h a u:=e.ok b
theorem mB(d:eI P w H h)(e:Rd H a (.dK b)):b.length<=sizeLine/\(a==sysModules)=false/\∃c,KV b c/\h.DictOf (aW P w) a c := show ah P w H h a (.dK b)from F5 d e
theorem CM(d:eI P w H h)(e:H a=some (.dK b)):b.length<=sizeLine/\(a==sysModules)=false/\∃c,KV b c/\h.DictOf (aW P w) a c:=mB d (.inl e)
theorem la(g:eI P w H h)(e:H a=some (.tup (c.map kV))):(tupleKind (aW P w)).is h c a:=by obtain⟨_,b,r,o,f,d,n,i,_⟩:=(show ah P w H h a (.tup (c.map kV))from g a _ e);exact⟨o,b.toArray,n,f,d,i,by simpa using n6 r⟩
theorem tW(g:eI P w H h)(e:Rd H a (.dT b)):b.length<=sizeLine/\(a==sysModules)=false /\ ∃d,KT H b d/\h.DictOfH (tupleKind (aW P w)) a d:=by
 obtain⟨z,y,d,r,o,u,D,n,j,C,v,s⟩:=(show ah P w H h a (.dT b)from F5 g e);refine⟨z,y,d,r,o,u,D,n,j,C,v,λx c=> ?_,s⟩;have f:∀{l:List (List ag×V)}{m:List (List ag×Addr×Value)},KT H l m->∀x∈m,(tupleKind (aW P w)).is h x.1 x.2.1:=by
  intro l m q
  induction q with
  |nil=>intro x c;exact nomatch c| @cons p q I E i t A =>
   intro x c
   rcases Ml.mp c with e|c
   .subst e
    exact la g (by rw[<- i.1];exact i.2.1)
   .exact A x c
 exact f r x c
theorem GL(d:eI P w H h)(e:H a=some (.dT b)):b.length<=sizeLine/\(a==sysModules)=false /\ ∃c,KT H b c/\h.DictOfH (tupleKind (aW P w)) a c:=tW d (.inl e)
end
def ju(H:Hp)(a:Addr)(y:V)(r:Option V):Prop :=
 (∃c k,Rd H a (.dK c)/\y=kV k/\r=fE c k)\/∃c k b,Rd H a (.dT c)/\y=.ref b/\H b=some (.tup (k.map kV))/\r=fE c k
def uM(H:Hp)(a:Addr)(y v:V)(d :Hp):Prop :=
 (∃c k,H a=some (.dK c)/\y=kV k/\c.length<sizeLine/\d =upd H a (.dK (dv c k v))) \/ ∃c k b,H a=some (.dT c)/\y=.ref b/\H b=some (.tup (k.map kV))/\c.length<sizeLine/\d =upd H a (.dT (dv c k v))
theorem ju.k{k:ag}(e:H a=some (.dK b)):ju H a (kV k) (fE b k):=.inl ⟨b,k,.inl e,rfl,rfl⟩
theorem ju.t{k:List ag}(e:H a=some (.dT c))(d:H b=some (.tup (k.map kV))):ju H a (.ref b) (fE c k):=.inr ⟨c,k,b,.inl e,rfl,d,rfl⟩
theorem uM.k{k:ag}(e:H a=some (.dK b))(c:b.length<sizeLine):uM H a (kV k) v (upd H a (.dK (dv b k v))):=.inl ⟨b,k,e,rfl,c,rfl⟩
theorem uM.t{k:List ag}(e:H a=some (.dT c))(d:H b=some (.tup (k.map kV)))(f:c.length<sizeLine) :
  uM H a (.ref b) v (upd H a (.dT (dv c k v))):=.inr ⟨c,k,b,e,rfl,d,f,rfl⟩
section
variable{X:Cx}{pins:List (Addr×Obj)}{σ:St}{H:Hp}{s:Shared}{a:Addr}{y v:V}{u r:Value}{o:Option V}{A:Around}{E:Value->Shared->Prop}
theorem Inv.big(I:Inv X pins σ H s):sysModules<s.heap.objs.size:=by exact Op (by decide) ((I.mod.glob.keeps I.bk).lt)
theorem zJ(O:A.units+1<cLine)(I:Inv X pins σ H s)(g:ju H a y (some v))(C:RelV y u)(h:∀f x,Inv X pins σ H x ->RelV v f ->Q f x) :
  wpAny (model X.prog X.w) A (getItem (.ref a) u) Q E s:=by
 rcases g with⟨i,k,e,m,l⟩|⟨i,k,b,e,m,L,l⟩
 .subst m
  obtain⟨z,N,M,d,n⟩:=mB I.hok e;obtain⟨f,j,c⟩:=jr.some_of (by rw[l];exact d.val k);exact wpAny_getItem_of (sZ C) n.mapOf j (h f _ (I.tok _) c)
 .subst m
  cases(show u=Value.ref b from C);obtain⟨z,N,D,d,n⟩:=tW I.hok e;obtain⟨f,j,c⟩:=jr.some_of (by rw[l];exact d.val k);obtain⟨p,J,q⟩:=Option.map_eq_some_iff.mp j;refine wpAny_getItem_heap (tupleKind_room_in1 O) (la I.hok L) n J ?_;rw[q];exact h f _ (I.tok _) c
theorem kT(I:Inv X pins σ H s)(g:MG (H a))(h:Heap.SameBut a s.heap c)(i:∃q,c.get? a=some q)(d:ah X.prog X.w (upd H a f) c a f) :
  Inv X pins σ (upd H a f) {s with heap:=c,toks:=j} :=
 I.write g (.inl rfl) (λb q hb z=>(h.2 b hb).trans z) i d
theorem vY{P:Program}(z:b.length<=sizeLine)(h:(a==sysModules)=false)(d:KV b c)(g:e.DictOf (aW P w) a c) :
  ah P w f e a (.dK b):=⟨z,h,c,d,g⟩
theorem zI(Y:A.units+1<cLine)(I:Inv X pins σ H s)(g:uM H a y v C)(M:RelV y u)(L:RelV v r)(h:∀J,Inv X pins σ C J ->Q () J) :
  wpAny (model X.prog X.w) A (setItem (.ref a) u r) Q E s:=by
 rcases g with⟨c,k,e,n,l,i⟩|⟨c,k,b,e,n,D,l,i⟩
 .subst n i
  obtain⟨z,m,T,d,p⟩:=CM I.hok e;have x:T.length<=sizeLine:=by rwa[<- d.length]
  have j:(dv c k v).length<=sizeLine:=by have:=fU c k v;omega
  refine wpAny_setItem_pairs (sZ M) p λh' dd' hs=>h _ ?_;have S:∃q,h'.get? a=some q:=let⟨q,_,_,f,_⟩:=dd';⟨q,f⟩
  exact kT I (by rw[e];exact True.intro) hs S (vY j m (d.put k L) dd')
 .subst n i
  cases(show u=Value.ref b from M);obtain⟨z,m,O,d,p⟩:=GL I.hok e;have x:O.length<=sizeLine:=by rwa[<- Pp d]
  have j:(dv c k v).length<=sizeLine:=by have:=fU c k v;omega
  refine wpAny_setItem_heap (tupleKind_room_in1 Y) (la I.hok D) p λh' dd' hs=>h _ ?_;obtain⟨q,U,ep,f,N,Z,W,_,R⟩:=dd';refine kT I (by rw[e];exact True.intro) hs ⟨q,f⟩ ⟨j,m,_,(d.put k D L).keeps λc ys ec=> ?_,q,U,ep,f,N,Z,W,R⟩;rwa[aA (BO ec e (λz=>nomatch z))]
end
section
variable{X:Cx}{pins:List (Addr×Obj)}{σ:St}{H:Hp}{s:Shared}{a:Addr}{kvs:List (ag×V)}{k:ag}{u:Value}{A:Around}{E:Value->Shared->Prop}
theorem Lc(I:Inv X pins σ H s)(e:Rd H a (.dK kvs))(h:∀t c,Inv X pins σ H c ->Q (.int kvs.length t) c):wpAny (model X.prog X.w) A (call (.builtin "len") [.ref a]) Q E s:=by obtain⟨z,f,g,b,d⟩:=mB I.hok e;refine call_len_dict f d (by rw[<- b.length];rw[NR]at z;omega) ?_;rw[<- b.length];exact h _ _ (I.tok _)
end
def MC(i:Expr):Prop:=∀b a,subscripted i false b a=operate [b,a] (getItem b a)
theorem DZ{A:Around}
  (l:typeLookup (.type T) "__getitem__"=pure (some (.builtin m))) (j:MC b)
  (h:wpAny (model a w) A (eval c f) (λo s₁=>wpAny (model a w) A (eval b f) (λi s₂=>s₂.TypeIs o T/\wpAny (model a w) A (getItem o i) Q E s₂) E s₁) E s) :
  wpAny (model a w) A (eval (.Subscript c b pos) f) Q E s:=by
 refine Subscript_ (No h (λo s₁ h₁=>No h₁ (λi s₂ d=> ?_) λ_ _ x=>x) λ_ _ x=>x);obtain⟨g,d⟩:=d;refine MS ?_;refine MS (OT g l ?_);have e:wpAny (model a w) A (subscripted b false o i) (λr s₃=>wpAny (model a w) A (letTemporaryGo c o r >>= λ_=>pure r) Q E s₃) E s₂:=by rw[j o i];exact wpAny_operating (No d (λr s₃ h₃=>MS (wpAny_letTemporaryGo (MV h₃))) λ_ _ x=>x)
 first
  |exact MV (MS e)
  |exact MS (MV (MS e))
  |exact MS e
theorem tY{o:Option V}(I:Inv X c h H s)(g:ju H a y o):s.TypeIs (.ref a) "dict":=by
 rcases g with⟨f,k,e,_,_⟩|⟨f,k,b,e,_,_,_⟩
 .obtain⟨_,_,j,_,d⟩:=mB I.hok e
  exact d.typeIs
 .obtain⟨_,_,i,_,d⟩:=tW I.hok e
  exact d.typeIs
def Kf(c b:TE):TE:=λσ H Q=>c σ H λx H1=>b σ H1 λy H2=>∃a v,x=.ref a/\ju H2 a y (some v)/\Q v H2
def Ko(c e d:TE):TS:=λD σ H=>d σ H λv H1=>c σ H1 λx H2=>e σ H2 λy H3=>∃a b,x=.ref a/\uM H3 a y v b/\D.nx σ b
section
variable{X:Cx}{o i e value:Expr}{pos pos' tpos:Pos}{td ty tv:TE}
theorem wk(m:X.A.units+1<cLine)(r:PE X o td)(q:PE X i ty)(n:MC i):PE X (.Subscript o i pos) (Kf td ty):=by intro b s c H Q I h;refine DZ PySem.F.slot_dict_getitem.lookup n (aj (r b s c H _ I h) λu s1 ⟨x,H1,I1,rx,q1⟩=>aj (q b s1 c H1 _ I1 q1) λiv s2 hpq=> ?_);obtain⟨y,l,d,p,a,v,f,g,j⟩:=hpq;subst f;obtain rfl:u=Value.ref a:=rx;exact⟨tY d g,zJ m d g p λw' s3 I3 rw' =>⟨v,l,I3,rw',j⟩⟩
theorem wf(m:X.A.units+1<cLine)(f:PE X o td)(j:PE X i ty)(l:PE X value tv)(d:swapsWith value (some (.Subscript o i pos')) pos.line X.env=pure false) :
  PS X (.Assign [.Subscript o i pos'] value pos) (Ko td ty tv):=by
 intro b s c H D I h;refine wpAny_Assign_Subscript (aj (l b s c H _ I h) λr s1 ⟨v,H1,I1,rv,q1⟩=>aj (f b s1 c H1 _ I1 q1) λu s2 ⟨x,H2,I2,rx,q2⟩=>aj (j b s2 c H2 _ I2 q2) λiv s3 ⟨y,H3,I3,ry,a,H4,ex,g,q3⟩=> ?_) d;subst ex;obtain rfl:u=Value.ref a:=rx;exact zI m I3 g ry rv λs4 I4=>⟨c,H4,I4,q3⟩
end
theorem tX{P:Program}(h:Heap)(a:sysModules<h.objs.size):ah P w H (h.push {cls:=.type "dict",data:=.dict #[]}) h.objs.size (.dK []) := ⟨M6 _,OC.mpr (Nd (Ms a)),[],.nil,Heap.DictOf.new h⟩
theorem CL{P:Program}(h:Heap)(a:sysModules<h.objs.size):ah P w H (h.push {cls:=.type "dict",data:=.dict #[]}) h.objs.size (.dT []) := ⟨M6 _,OC.mpr (Nd (Ms a)),[],.nil,_,#[],0,Mg _ rfl,⟨rfl,rfl,rfl⟩,rfl,rfl,List.nodup_nil⟩
def Gj:TE:=λ_ H Q=>∀p,H p=none->Q (.ref p) (upd H p (.dK []))
section
variable{X:Cx}{pos:Pos}
theorem rj:PE X (.Dict [] [] pos) Gj:=λpins s σ H Q I h =>
 wpAny_Dict_empty ⟨.ref s.heap.objs.size,_,I.laid (λ_ _ q=>MU _ q) (Mc _) (tX s.heap I.big),rfl,h _ (I.hok.fresh (Mc _))⟩
end
def ue:List (TE×TE)->St->Hp->(List (V×V)->Hp->Prop)->Prop
 |[],_,H,Q=>Q [] H|(tk,tv)::r,σ,H,Q=>tk σ H λx H1=>tv σ H1 λy H2=>ue r σ H2 λps H3=>Q ((x,y)::ps) H3
abbrev VV:List (V×V)->List (Value×Value)->Prop:=Paired λp q=>RelV p.1 q.1/\RelV p.2 q.2
def PPs(X:Cx)(pos:Pos)(c:List (Option Expr))(a:List Expr)(d:List (TE×TE)):Prop :=
 ∀(b:List (Addr×Obj))(s:Shared)(e:St)(H:Hp)(Q:List (V×V)->Hp->Prop),Inv X b e H s->ue d e H Q -> wpAny (model X.prog X.w) X.A (evalPairs (pairTrees c a X.env pos)) (λvs s' =>∃g f,Inv X b e f s' /\VV g vs/\Q g f) X.xe s
theorem Dy:PPs X pos [] [] []:=λpins s σ H Q I h=>pairTrees_nil_walk ⟨[],H,I,.nil,h⟩
theorem A0{k:Expr}(g:PE X k b)(i:PE X v c)(f:PPs X pos d e a) :
  PPs X pos (some k::d) (v::e) ((b,c)::a):=λpins s σ H Q I h =>
 pairTrees_cons_walk (aj (g pins s σ H _ I h) λu s1 ⟨x,H1,I1,rx,q1⟩=>aj (i pins s1 σ H1 _ I1 q1) λw2 s2 ⟨y,H2,I2,ry,q2⟩ =>aj (f pins s2 σ H2 _ I2 q2) λws s3 ⟨ps,H3,I3,rel,q3⟩=>⟨(x,y)::ps,H3,I3,.cons ⟨rx,ry⟩ rel,q3⟩)
def gZ(b a:List (ag×V)):List (ag×V):=a.foldl (λacc kv=>dv acc kv.1 kv.2) b
theorem KV.merge:∀{a:List (ag×V)}{d:List (ag×Value)}{b:List (ag×V)}{c:List (ag×Value)},KV a d->KV b c->KV (gZ b a) (merged c d):=by
 intro a d b c r;unfold KV at r
 induction r generalizing b c with
 |nil=>intro q;exact q| @cons p q i j h t g =>
  intro f;have e:KV (dv b p.1 p.2) (stored c q.1 q.2):=by have:=f.put p.1 h.2;rwa[<- h.1]
  exact g e
theorem gI:∀(b a:List (ag×V)),(gZ a b).length<=a.length+b.length
 |[],a=>by show a.length<=a.length+0;omega|p::r,a=>by have d:=gI r (dv a p.1 p.2);have c:=fU a p.1 p.2;show(gZ (dv a p.1 p.2) r).length<=_;rw[Mq];omega
theorem mK{P:Program}{w:World}:∀{d:List (ag×V)}{f:List (Value×Value)},VV (d.map λkv=>(kV kv.1,kv.2)) f->∃e,Carries (aW P w) f e/\KV d e
 |[],_,r=>by rw[OS]at r;cases r;exact⟨[],True.intro,.nil⟩|p::d,_,r=>by
  rw[Mm]at r;cases r with
  | @cons a b l j h t =>obtain⟨e,c,q⟩:=mK t;obtain⟨i,g⟩:=b;exact⟨(p.1,g)::e,⟨sZ h.1,rfl,c⟩,.cons ⟨rfl,h.2⟩ q⟩
def Ke(b:List (TE×TE)):TE:=λσ H Q=>∀p,H p=none->ue b σ (upd H p (.dK [])) λps H2=>H2 p=some (.dK [])/\∃a:List (ag×V),ps=a.map (λkv=>(kV kv.1,kv.2))/\a.length<=15/\Q (.ref p) (upd H2 p (.dK (gZ [] a)))
theorem D5(h:PPs X pos b d f)(i:b.all (·.isSome)=true)(D:b.length=d.length)(p:b≠[])
  (l:b.length<=15):PE X (.Dict b d pos) (Ke f):=by
 intro g s r H Q I q;refine wpAny_Dict_walk (knd:=aW X.prog X.w) i D p l (aj (h g _ r _ _ (I.laid (t' :=s.toks) (λ_ _ q=>MU _ q) (Mc _) (tX s.heap I.big)) (q _ (I.hok.fresh (Mc s.heap.objs.size)))) λws s2 hpq=> ?_);obtain⟨T,S,n,m,e,j,R,U,v⟩:=hpq;subst R;obtain⟨A,c,J⟩:=mK m;obtain⟨z,E,O,x,L⟩:=CM n.hok e;cases x;refine⟨A,c,L,λh' dd' hs=>⟨.ref s.heap.objs.size,_,?_,rfl,v⟩⟩;have N:(gZ [] j).length<=sizeLine:=by have u:=gI j [];rw[Of]at u;rw[NR];omega
 have C:∃q,h'.get? s.heap.objs.size=some q:=let⟨q,_,_,hq,_⟩:=dd';⟨q,hq⟩
 exact kT n (by rw[e];exact True.intro) hs C (vY N E (J.merge .nil) dd')
structure M1(X:Cx)(o:Expr)(m:Str)(apos:Pos)(e:Expr)(cpos:Pos):Prop where
 base:attributeBase o m X.env (eval o X.env)=eval o X.env
 few:((backTo cpos (starEach [e] X.env)).all (fun x=> !x.1)&&(backToKw cpos (keywordEach [] X.env)).all (fun x=>x.1.isSome)
  && decide (([e]:List Expr).length+([]:List Keyword).length+(if([]:List Keyword).isEmpty then 0 else 1)<30))=true
 line:(apos.endLine==cpos.line)=true
 trees:backTo cpos (starEach [e] X.env)=[(false,eval e X.env)]
structure M2(X:Cx)(o:Expr)(m:Str)(apos:Pos)(e f:Expr)(cpos:Pos):Prop where
 base:attributeBase o m X.env (eval o X.env)=eval o X.env
 few:((backTo cpos (starEach [e,f] X.env)).all (fun x=> !x.1)&&(backToKw cpos (keywordEach [] X.env)).all (fun x=>x.1.isSome)
  && decide (([e,f]:List Expr).length+([]:List Keyword).length+(if([]:List Keyword).isEmpty then 0 else 1)<30))=true
 line:(apos.endLine==cpos.line)=true
 trees:backTo cpos (starEach [e,f] X.env)=[(false,eval e X.env),(false,eval f X.env)]
def IsD(H:Hp)(a:Addr):Prop:=(∃b,Rd H a (.dK b))\/∃b,Rd H a (.dT b)
theorem Ig(I:Inv X g m H s)(d:IsD H a) :
  s.TypeIs (.ref a) "dict"/\(∀b,Value.ref a=.ref b->∃c,s.heap.get? b=some c/\c.dict=none)/\(a==sysModules)=false:=by
 rcases d with⟨j,e⟩|⟨j,e⟩
 .obtain⟨_,l,o,_,f⟩:=mB I.hok e
  refine⟨f.typeIs,λb q=> ?_,l⟩;cases q;obtain⟨c,_,_,i,h,_⟩:=f;exact⟨c,i,h.2.1⟩
 .obtain⟨_,l,n,_,f⟩:=tW I.hok e
  refine⟨f.typeIs,λb q=> ?_,l⟩;cases q;obtain⟨c,_,_,i,h,_⟩:=f;exact⟨c,i,h.2.1⟩
section
variable{X:Cx}{pins:List (Addr×Obj)}{σ:St}{H:Hp}{s:Shared}{a:Addr}{y d:V}{u r:Value}{o:Option V}{A:Around}{E:Value->Shared->Prop}
theorem JK(D:A.units+1<cLine)(I:Inv X pins σ H s)(g:ju H a y o)(q:RelV y u)(v:RelV d r)(h:∀n p,Inv X pins σ H p ->RelV (o.getD d) n ->Q n p) :
  wpAny (model X.prog X.w) A (call (.builtin "dict.get") [.ref a,u,r]) Q E s:=by
 rcases g with⟨i,k,e,m,l⟩|⟨i,k,b,e,m,C,l⟩
 .subst m
  obtain⟨z,j,J,c,f⟩:=mB I.hok e;refine call_meetsIn PySem.F.slot_dict_get f.typeIs PySem.F.entry_dict_get (PySem.F.args_dict_get_3 _ _ _) (meets_dict_get_default (aW X.prog X.w) a (sZ q) j r) ⟨_,f.mapOf,h _ _ (I.tok _) ?_⟩;rw[l];exact(c.val k).getD v
 .subst m
  cases(show u=Value.ref b from q);obtain⟨z,j,x,c,f⟩:=tW I.hok e;refine call_meetsIn PySem.F.slot_dict_get f.typeIs PySem.F.entry_dict_get (PySem.F.args_dict_get_3 _ _ _) (meetsH_dict_get_default (tupleKind (aW X.prog X.w)) a b j r) ⟨tupleKind_room_in1 D,k,x,la I.hok C,f,h _ _ (I.tok _) ?_⟩;rw[l];exact(c.val k).getD v
end
def Gk(c d b:TE):TE:=λσ H Q=>c σ H λx H1=>∃a,x=.ref a/\IsD H1 a/\d σ H1 λy H2=>b σ H2 λz H3=>∃o,ju H3 a y o/\Q (o.getD z) H3
section
variable{X:Cx}{o e f:Expr}{apos cpos:Pos}{td ty tx:TE}
theorem rm(r:X.A.units+1<cLine)(D:PE X o td)(q:PE X e ty)(v:PE X f tx)(m:M2 X o "get" apos e f cpos):PE X (.Call (.Attribute o "get" apos) [e,f] [] cpos) (Gk td ty tx):=by
 intro b s c H Q I h;refine wpAny_Call_method m.base m.few m.line PySem.F.plainAttrs_dict PySem.F.slot_dict_get PySem.F.type_dict_get (aj (D b s c H _ I h) λu s1 hpq=> ?_);obtain⟨x,C,i,j,a,p,d,w⟩:=hpq;subst p;obtain rfl:u=Value.ref a:=j;obtain⟨n,l,_⟩:=Ig i d;refine⟨n,l,?_⟩;rw[m.trees]
 refine Ph rfl (Calls.evalArgs_plain (Calls.spliced_cons (aj (q b s1 c C _ i w) λiv s2 ⟨y,H2,I2,ry,q2⟩ =>Calls.spliced_cons (aj (v b s2 c H2 _ I2 q2) λfv s3 ⟨z,H3,I3,rz,ov,g,q3⟩=>Calls.spliced_nil ?_))))
 exact JK r I3 g ry rz λw' s4 I4 rw' =>⟨_,H3,I4,rw',q3⟩
end
section
variable{X:Cx}{pins:List (Addr×Obj)}{σ:St}{H:Hp}{s:Shared}{a:Addr}{kvs:List (ag×V)}{A:Around}{E:Value->Shared->Prop}
theorem CP(I:Inv X pins σ H s)(e:Rd H a (.dK kvs))(h:∀p d,H p=none->Inv X pins σ (upd H p (.dK kvs)) d ->Q (.ref p) d):wpAny (model X.prog X.w) A (call (.type "dict") [.ref a]) Q E s:=by obtain⟨z,g,i,c,f⟩:=mB I.hok e;refine kt_call_dict g f (by rwa[<- c.length]) λh' dd' hs=> ?_;refine h _ _ (I.hok.fresh (Mc _)) (I.laid (λb q hq=> ?_) (Mc _) (vY z (OC.mpr (Nd (Ms I.big))) c dd'));exact(hs.2 b (Ms (Mi hq))).trans (MU _ hq)
end
def cd(a:List Str)(i j:Nat):Nat:=((a.getD i ⟨#[]⟩).cps.toList).getD j 0
def fl(c:Nat):Nat:=if c=120 then 46 else 120
def sg(o:Bool)(c:Nat):Nat:=if o then fl c else c
def Wd(a:List Str)(w:Nat):Prop:=∀r∈a,r.length=w
theorem Cg(d:Wd a w)(c:i<a.length)(g:j<w):∃z,a[i]? =some z/\z.cps.toList[j]? =some (cd a i j)/\z.length=w:=by
 have e:=Mk c;have f:=d a[i] (OI c);have b :j<a[i].cps.toList.length:=by rw[M0];show j<a[i].length;omega
 refine⟨a[i],e,?_,f⟩;unfold cd;rw[Mf,Mf,e,Option.getD_some,Mk b,Option.getD_some]
open AutoSeq1 (wpAny_loadPart')
open AutoSeq1 (wpAny_loadPart')
section
variable{X:Cx}
theorem Hl:dJ X (compareOp .Is) (λx y H Q=>∃b c,x=.bl b/\y=.bl c/\Q (.bl (b==c)) H):=by intro a s f H x y u v Q I d e h;obtain⟨b,c,rfl,rfl,q⟩:=h;cases d;cases e;exact is_bool ⟨.bl (b==c),H,I,rfl,q⟩
theorem AZ:KA X (λx f g H Q=>∃z,x=.str z/\z.length<=sizeLine/\Q (.str (Txt.slice z f g)) H):=by
 intro b s p H x v y A f g C Q I o d w m h;obtain⟨z,rfl,c,q⟩:=h;obtain⟨t,rfl⟩:=o;refine⟨"str",_,slot_str_getitem.lookup,typeIs_str _ _ _,?_⟩;have a:∀r k,EP X b p Q (.str (Txt.slice z f g) r) {s with toks:=k}:=λt' k=>⟨.str _,H,I.tok _,⟨_,rfl⟩,q⟩;cases w with
 |none =>
  cases m with
  |none=>exact Pb (l:=none) (u:=none) (st:=none) d rfl (post_val_or_str ⟨M8 (Txt.slice_le z _ _) c,a⟩)|int j e=>exact Pb (l:=none) (u:=some (j,e)) (st:=none) d rfl (post_val_or_str ⟨M8 (Txt.slice_le z _ _) c,a⟩)
 |int i n =>
  cases m with
  |none=>exact Pb (l:=some (i,n)) (u:=none) (st:=none) d rfl (post_val_or_str ⟨M8 (Txt.slice_le z _ _) c,a⟩)|int j e=>exact Pb (l:=some (i,n)) (u:=some (j,e)) (st:=none) d rfl (post_val_or_str ⟨M8 (Txt.slice_le z _ _) c,a⟩)
theorem El(k n:Nat):Builtin.Str.strSliceIndices none (some (k:Int)) 1 n=(List.range (min k n)).map λi=>0+i:=by
 unfold Builtin.Str.strSliceIndices sliceRange;have c:((if(0:Int)<max 0 (min (k:Int) n)then(max 0 (min (k:Int) n)-0+1-1)/1 else 0):Int).toNat=min k n:=by
  split<;>omega
 simp only[show(1:Int)>0 by decide,PN,show¬((k:Int)<0)by omega,Om,c];refine NO λi _=> ?_;omega
theorem Ek(k n:Nat):Builtin.Str.strSliceIndices (some (k:Int)) none 1 n=(List.range (n-min k n)).map λi=>min k n+i:=by
 unfold Builtin.Str.strSliceIndices sliceRange;have c:((if max 0 (min (k:Int) n)<n then(n-max 0 (min (k:Int) n)+1-1)/1 else 0):Int).toNat=n-min k n:=by
  split<;>omega
 simp only[show(1:Int)>0 by decide,PN,show¬((k:Int)<0)by omega,Om,c];refine NO λi _=> ?_;omega
set_option tactic.hygienic true
theorem yW(z:Str)(k:Nat):(Txt.slice z none (some (k:Int))).cps.toList=z.cps.toList.take k:=by
 have l:z.cps.toList.length=z.length:=by rw[M0];rfl
 have f:(λ(i:Nat)=>z.cps[i]?)=λi=>z.cps.toList[i]? :=by funext i;simp
 unfold Txt.slice;rw[El]
 split
 .rename_i h
  simp only[MT,NT,Mb,Nx]at h;rw[List.take_of_length_le (by omega)]
 .rw[f,StrLaws.picks z.cps.toList (min k z.length) 0 (by omega),List.drop_zero]
  rw[List.toList_toArray,<-l,<-List.take_eq_take_min]
theorem yV(z:Str)(k:Nat):(Txt.slice z (some (k:Int)) none).cps.toList=z.cps.toList.drop k:=by
 have l:z.cps.toList.length=z.length:=by rw[M0];rfl
 have f:(λ(i:Nat)=>z.cps[i]?)=λi=>z.cps.toList[i]? :=by funext i;simp
 unfold Txt.slice;rw[Ek]
 split
 .rename_i h
  simp only[MT,NT,Mb,Nx]at h
  by_cases a:z.length=0
  .have:z.cps.toList=[]:=List.eq_nil_of_length_eq_zero (by omega)
   rw[this];simp
  .have:k=0:=by omega
   subst this;rfl
 .rw[f,StrLaws.picks z.cps.toList (z.length-min k z.length) (min k z.length) (by omega)]
  rw[List.toList_toArray,List.take_of_length_le (by rw[O8];omega)]
  by_cases h:k<=z.length;rw[Nat.min_eq_left h];rw[Nat.min_eq_right (by omega),List.drop_of_length_le (by omega),List.drop_of_length_le (by omega)]
end
section
variable{P:Program}{w:World}{A:Around}{E:Value->Shared->Prop}{s:Shared}
theorem Hs{v:Value}(f:s.heap.IsTupleIter b a i)(n:s.heap.IsTuple a c)(h:c[i]? =some v)
  (k:∀g,g.IsTupleIter b a (i+1)->Heap.SameBut b s.heap g ->Q v {s with heap:=g}):wpAny (model P w) A (Builtin.SmallTypes.nextOf (.ref b)) Q E s:=by
 obtain⟨r,e,l,d⟩:=id f;obtain⟨q,j,_,o,m⟩:=n;refine MS (Nb f.typeIs F.slot_tuple_iterator_next (NE F.slot_tuple_iterator_next f.typeIs F.entry_tuple_iterator_next ?_ (F.args_tuple_iterator_next_1 _)));show wpAny _ _ (field (.ref b) 0 >>= λ_=>_) _ _ s;refine MS (Nt e d rfl ?_);refine MS (Nt e d rfl ?_);refine MS (wpAny_seqItems j m ?_);simp only[Nq,h];refine MS (Nu e d (by simp) (MV ⟨v,rfl,MV (k _ ?_ (OF ..))⟩));exact⟨_,M3 _ e (Nj (NK d _)),(PF ..).trans l,by rw[NK d];simp[rawInt]⟩
theorem vD(j:A.handled=none)(f:s.heap.IsTupleIter b a i)(u:s.heap.IsTuple a c)(l:c[i]? =none)
  (k:∀g e,Heap.ExtBut b s.heap g ->(∃o,g.get? e=some o/\o.cls=.type "StopIteration")->E (.ref e) {s with heap:=g}):wpAny (model P w) A (Builtin.SmallTypes.nextOf (.ref b)) Q E s:=by
 obtain⟨r,d,v,h⟩:=id f;obtain⟨q,n,_,y,p⟩:=u;refine MS (Nb f.typeIs F.slot_tuple_iterator_next (NE F.slot_tuple_iterator_next f.typeIs F.entry_tuple_iterator_next ?_ (F.args_tuple_iterator_next_1 _)));show wpAny _ _ (field (.ref b) 0 >>= λ_=>_) _ _ s;refine MS (Nt d h rfl ?_);refine MS (Nt d h rfl ?_);refine MS (wpAny_seqItems n p ?_);simp only[Nq,l];refine MS (Pm (MS (Nu d h (by simp) ?_)));refine MS ?_;refine MS (NC ?_ (by size_fits));refine MS (Nv (by first|(simp only[firstArgMember];rfl)|rfl) ?_);refine NC ?_ (by size_fits);refine MS (wpAny_handled ?_)
 first|rw[j]|rw[show A.in1.handled=none by exact j]
 refine MS (MV (wpAny_throw ?_));exact k _ _ (((OF ..).extBut.push _).push _) ⟨_,Mg _ rfl,rfl⟩
end
theorem zH{P:Program}{w:World}{A:Around}(g:A.handled=none)(c a:Addr)(f:a≠c)(b:Array Value) :
  Draws P w A c [c,a] b.size (λi v=>b[i]? =some v) (λi h=>h.IsTupleIter c a i/\h.IsTuple a b) where
 live:=λ_ _ st=>by obtain⟨⟨r,d,_⟩,_⟩:=st;exact⟨r,d⟩
 frame:=λ_ _ _ st k=>⟨st.1.at λo e=>k c (by simp) o e,st.2.at λo e=>k a (by simp) o e⟩
 item:=λi s Q E hi st q=>by refine Hs st.1 st.2 (v:=b[i]) (by simp[hi]) λh' t' sb=>q _ h' s.toks (by simp[hi]) ⟨t',st.2.extBut sb.extBut f⟩ sb
 done:=λs Q E st q=>vD g st.1 st.2 (by simp) q
open AutoSeq1 (wpAny_loadPart')
set_option tactic.hygienic true in
theorem sS(a:Addr)(e:Array Value)(n:Nat)(o:Option Addr)(p:Array (Option Value)) :
  Meets (Builtin.«enumerate.__new__» ⟨[.type "enumerate",.ref a],[]⟩) (λ_ R s=>s.heap.get? a=some {cls:=.type "tuple",dict:=o,data:=.seq e n,slots:=p} /\ R (.ok (.ret (.ref (s.heap.push {cls:=.type "tuple_iterator",data:=.fields #[.ref a,.int 0 0]}).objs.size))) {s with heap:=(s.heap.push {cls:=.type "tuple_iterator",data:=.fields #[.ref a,.int 0 0]}).push {cls:=.type "enumerate",data:=.fields #[.none,.bool false,.ref s.heap.objs.size,rawInt 0,.none,.none]}}) :=
 .of_wp λprog w A R s h=>by
  obtain⟨j,g,d,l,m⟩:=s;obtain⟨b,h⟩:=h;have i:=sub_enumerate;have f:Heap.IsTuple (Shared.heap ⟨j,g,d,l,m⟩) a e:=⟨_,b,rfl,n,rfl⟩
  wp_walk using OJ b
  refine wpAny_stack_any λ_=>MV ?_
  split
  .rename_i c _ _ _ _ _
   cases(c==Value.type "enumerate")
   .wp_walk using OJ b,P2 f
    exact⟨_,rfl,h⟩
   .wp_walk using OJ b,P2 f
    exact⟨_,rfl,h⟩
  .wp_walk using OJ b,P2 f
   exact⟨_,rfl,h⟩
theorem vo{P:Program}{A:Around}(p:s.heap.IsTuple a d)
  (k:∀e,IsEnum e (s.heap.objs.size+1) s.heap.objs.size 0 .none->e.IsTupleIter s.heap.objs.size a 0->(∀b o,s.heap.get? b=some o->e.get? b=some o)->Q (.ref (s.heap.objs.size+1)) {s with heap:=e}) :
  wpAny (model P w) A (call (.type "enumerate") [.ref a]) Q E s:=by
 obtain⟨⟨c,j,r,m⟩,l,h,n,g⟩:=p;subst h g;refine callType_new F.called_enumerate (by decide) (F.typeCall_enumerate_1 _) (F.newCall_enumerate_1 _) (λob=>F.args_object_init_2 ob _) F.entry_enumerate_new (sS a d n j m) ⟨l,?_⟩;have i:(s.heap.push {cls:=.type "tuple_iterator",data:=.fields #[.ref a,.int 0 0]}).objs.size=s.heap.objs.size+1:=OP ..;rw[i];have f:IsEnum ((s.heap.push {cls:=.type "tuple_iterator",data:=.fields #[.ref a,.int 0 0]}).push {cls:=.type "enumerate",data:=.fields #[.none,.bool false,.ref s.heap.objs.size,rawInt 0,.none,.none]}) (s.heap.objs.size+1) s.heap.objs.size 0 .none:=by have q:=Mg (s.heap.push {cls:=.type "tuple_iterator",data:=.fields #[.ref a,.int 0 0]}) (o:={cls:=.type "enumerate",data:=.fields #[.none,.bool false,.ref s.heap.objs.size,rawInt 0,.none,.none]}) rfl;rwa[i]at q
 exact⟨⟨_,f,rfl⟩,k _ f ⟨_,MU _ (Mg _ rfl),rfl,rfl⟩ λb o y=>MU _ (MU _ y)⟩
def Jr(b:Hp->List V->Prop):It :=
 ⟨λi H=>∃a x,b H a/\a[i]? =some x,λi H v H' =>∃p,H p=none/\v=.ref p/\∀a x,b H a->a[i]? =some x->H' =upd H p (.tup [.int (i:Nat),x]),λi H=>∃a,b H a/\a.length=i⟩
structure xy(P:Program)(w:World)(K:W.Frag)(src:Hp->List V->Prop)(e it:Addr)(tn:Nat->Heap->Prop):Prop where
 ne:e≠it
 obj:∀i h,tn i h->∃o,h.get? it=some o/\∀v,o.data≠.cell v
 keep:∀i h h',tn i h->(∀o,h.get? it=some o->h'.get? it=some o)->tn i h'
 inj:∀(X:Cx) pins s σ H xs ys,X.K=K->Inv X pins σ H s->src H xs->src H ys->xs=ys
 draws:∀(X:Cx) pins s σ H xs (i:Nat),X.prog=P->X.w=w->X.K=K->X.calm=true->Inv X pins σ H s->src H xs->tn i s.heap->∃(fp:List Addr)(Pw:Nat->Value->Prop)(St:Nat->Heap->Prop),
  Draws P w X.A.in1 it fp xs.length Pw St/\e∉fp/\St i s.heap/\(∀j v x,Pw j v->xs[j]? =some x->RelV x v)/\∀j h,St j h->tn j h
theorem jK{P:Program}{w:World}{K:W.Frag}{es:List Expr}{kt:Nat}{J:Pos}{L:Hp->List V->Prop}{e n:Addr}{tn:Nat->Heap->Prop}(S:xy P w K L e n tn) :
  nF P w K (.Tuple es kt J) (Jr L) [e,n] e (λi h=>(∃b,IsEnum h e n (i:Nat) b)/\tn i h) where
 mem:=by simp
 obj:=λi h g c p=>by
  obtain⟨⟨b,f⟩,j⟩:=g;simp only[Ml,NJ,OV]at p
  rcases p with rfl|rfl
  .exact⟨_,f,λv z=>by cases z⟩
  .exact S.obj i h j
 keep:=λi h h' g k=>by obtain⟨⟨b,f⟩,j⟩:=g;exact⟨⟨b,k e (by simp) _ f⟩,S.keep i h h' j λo q=>k n (by simp) o q⟩
 item:=by
  intro X N C A p i a s r H E I T g hg;obtain⟨⟨b,f⟩,j⟩:=g;obtain⟨Q,x,R,M⟩:=hg;obtain⟨fp,Pw,St,D,O,m,l,d⟩:=S.draws X a s r H Q i N C A p I R j;subst N C A;have v:=Mi f;have Y:n<s.heap.objs.size:=by obtain⟨o,ho,_⟩:=S.obj i _ j;exact Mi ho
  refine wpAny_pyNext_enum_itemD D f m ((Mh.mp M).1) S.ne O λu h' tk hu ho hst' hT hsz hk=> ?_;refine⟨_,rfl,wpAny_letOwnedTupleGo_enum ho λh'' he' hs' => ?_⟩;have kk:∀c o,c∉[e,n]->s.heap.get? c=some o->h''.get? c=some o:=λc o hc' y=>by simp only[Ml,NJ,OV,Pd]at hc';exact(hs'.2 c hc'.1).trans (hk c o hc'.1 hc'.2 y)
  have I1:Inv X a r (upd H s.heap.objs.size (.tup [.int i,x])) {s with heap:=h'',toks:=tk+1} :=
   I.drew T kk (Mc _) ⟨by show 2<=sizeLine;decide,[.int i tk,u],.cons ⟨tk,rfl⟩ (.cons (l i u x hu M) .nil),⟨_,(hs'.2 _ (Ni v)).trans hT,rfl,_,rfl,rfl⟩⟩
  refine⟨.ref s.heap.objs.size,_,I1,rfl,⟨s.heap.objs.size,I.hok.fresh (Mc _),rfl,λxs' x' hs2 hx2=> ?_⟩,⟨⟨u,by simpa using he'⟩,S.keep _ _ _ (d _ _ hst') λo y=>(hs'.2 n S.ne.symm).trans y⟩,λc hc' => ?_⟩
  .have q:=S.inj X a s r H _ _ rfl I R hs2
   subst q;rw[M]at hx2;cases hx2;rfl
  .rw[aA ?_]
   .exact(T c hc').1
   .simp only[Ml,NJ,OV]at hc'
    rcases hc' with rfl|rfl
    .exact Ms v
    .exact Ms Y
 done:=by intro X N C A p i a s r H E I T g hg;obtain⟨⟨b,f⟩,j⟩:=g;obtain⟨Q,R,M⟩:=hg;obtain⟨fp,Pw,St,D,O,m,l,d⟩:=S.draws X a s r H Q i N C A p I R j;subst M;exact wpAny_pyNext_enum_endD D f m λh' hk=>⟨rfl,I.drew0 T λc o hc' y=>hk c o (by simp only[Ml,NJ,OV,Pd]at hc';exact hc'.2) y⟩
 self:=λ_ _ _ _ _ g h=>by obtain⟨⟨b,f⟩,_⟩:=g;exact P6 f h
theorem zF{P:Program}{w:World}{K:W.Frag}{a e b:Addr}(f:e≠b)(g:a≠b)(q:a≠e):xy P w K (λH xs=>bT K H a xs) e b (λi h=>h.IsTupleIter b a i) where
 ne:=f
 obj:=λi h st=>by obtain⟨o,y,_,d⟩:=st;exact⟨o,y,λv z=>by rw[d]at z;cases z⟩
 keep:=λi h h' st k=>st.at k
 inj:=λX pins s σ H xs ys hK I f g=>by subst hK;exact I.tuple_inj f g
 draws:=λX pins s σ H xs i hP hw hK hc I hs ht=>by
  subst hP hw hK;obtain⟨c,r,p,_⟩:=I.tuple hs;have D:=zH (P:=X.prog) (w:=X.w) (A:=X.A.in1) (I.ok.hd hc) b a g c.toArray;rw[Me,<-r.length]at D;refine⟨_,_,_,D,by simp[f,q.symm],⟨ht,p⟩,λj v x hv hx=> ?_,λj h st=>st.1⟩;obtain⟨u,n,m⟩:=r.get hx;have e:c[j]? =some v:=by simpa using hv
  rw[n]at e;cases e;exact m
theorem zG{P:Program}{w:World}{K:W.Frag}{z:Str}{t:Tok}{e f:Addr}(a:e≠f):xy P w K (λ_ xs=>xs=cy z) e f (λi h=>h.IsStrIter f (strIterType z) z t i) where
 ne:=a
 obj:=λi h st=>by obtain⟨o,m,_,d⟩:=st;exact⟨o,m,λv z=>by rw[d]at z;cases z⟩
 keep:=λi h h' st k=>by obtain⟨o,m,r⟩:=st;exact⟨o,k o m,r⟩
 inj:=λX pins s σ H xs ys hK I a h2=>by rw[a,h2]
 draws:=λX pins s σ H xs i hP hw hK hc I hs ht=>by
  subst hP hw hK hs;have l:(cy z).length=z.cps.size:=by rw[kq];rfl
  have b:∀j v x,(∃c u,z.cps[j]? =some c/\v=.str ⟨#[c]⟩ u)->(cy z)[j]? =some x->RelV x v:=λj v x hv hx=>by obtain⟨c,u,g,rfl⟩:=hv;unfold cy at hx;rw[Mp,Nh,g]at hx;cases hx;exact⟨u,rfl⟩
  rw[l];cases n:z.cps.all (·<128)with
  |true =>
   have e:strIterType z="str_ascii_iterator":=by unfold strIterType;rw[Ma n]
   rw[e]at ht ⊢;exact⟨_,_,_,Draws.strAscii (A:=X.A.in1) (I.ok.hd hc) f z t,by simp[a],ht,b,λj h st=>st⟩
  |false =>
   have e:strIterType z="str_iterator":=by unfold strIterType;rw[MY (by rw[n];exact MZ)]
   rw[e]at ht ⊢;exact⟨_,_,_,Draws.strWide (A:=X.A.in1) (I.ok.hd hc) f z t,by simp[a],ht,b,λj h st=>st⟩
section
variable{X:Cx}
def Io(K:W.Frag)(c:TA):TI:=λσ H R=>c σ H λvs H1=>∃a b,vs=[.ref a]/\bT K H1 a b/\R (Jr λH b=>bT K H a b) H1
def Ip(a:TA):TI:=λσ H R=>a σ H λvs H1=>∃z,vs=[.str z]/\R (Jr λ_ xs=>xs=cy z) H1
theorem A4(E:Gl X "enumerate")(w:X.mg "enumerate"=none)(A:PA X [a] i)(C:starEach [a] X.env=[(false,eval a X.env)]:=by rfl) :
  PI X (.Tuple x y d) (.Call (.Name "enumerate" p) [a] [] pos) (Io X.K i):=by
 intro b s f H R I h;refine Call_ (dB I E w boot_enumerate (NX (aj (A pos b s f H _ I h) λus s1 ⟨vs,H1,I1,r1,q1⟩=> ?_) C rfl));obtain⟨l,J,e,v,q⟩:=q1;subst e;obtain⟨u,rfl,n⟩:=vals1 r1;cases n;obtain⟨D,r,j,_⟩:=I1.tuple v;have g:l<s1.heap.objs.size:=by obtain⟨o,e,_⟩:=id j;exact Mi e
 refine vo j λh' he ge hk=> ?_;refine P6 he ?_;refine⟨s1.heap.objs.size+1,[s1.heap.objs.size+1,s1.heap.objs.size],_,_,H1,rfl,I1.kept (t' :=s1.toks) hk,jK (zF (Nat.succ_ne_self _) (Ms g) (Ms (Np g))),⟨⟨_,he⟩,ge⟩,λc hc=> ?_,q⟩;have m:s1.heap.objs.size<=c:=by
  simp only[Ml,NJ,OV]at hc
  rcases hc with rfl|rfl<;>omega
 exact I1.fpOk m (I1.hok.fresh m)
theorem A5(v:Gl X "enumerate")(j:X.mg "enumerate"=none)(o:PA X [a] g)(r:starEach [a] X.env=[(false,eval a X.env)]:=by rfl) :
  PI X (.Tuple l m d) (.Call (.Name "enumerate" p) [a] [] pos) (Ip g):=by
 intro b s f H R I h;refine Call_ (dB I v j boot_enumerate (NX (aj (o pos b s f H _ I h) λus s1 ⟨vs,H1,I1,r1,q1⟩=> ?_) r rfl));obtain⟨z,e,q⟩:=q1;subst e;obtain⟨u,rfl,t,rfl⟩:=vals1 r1;refine call_enumerate_str λh' he ge _ hk=> ?_;refine P6 he ?_;refine⟨s1.heap.objs.size+1,[s1.heap.objs.size+1,s1.heap.objs.size],_,_,H1,rfl,I1.kept (t' :=s1.toks) hk,jK (zG (Nat.succ_ne_self _)),⟨⟨_,he⟩,ge⟩,λc hc=> ?_,q⟩;have i:s1.heap.objs.size<=c:=by
  simp only[Ml,NJ,OV]at hc
  rcases hc with rfl|rfl<;>omega
 exact I1.fpOk i (I1.hok.fresh i)
theorem B5{src:Hp->List V->Prop}{b:List V}{g:TG}{n:TS}{D:cE}{a:St}{H:Hp}(c:Nat->St->Hp->Prop)(q:c 0 a H)(u:∀i a H,i<=b.length->c i a H->src H b)
  (v:∀i x p a H,b[i]? =some x->H p=none->c i a H->g (.ref p) a (upd H p (.tup [.int (i:Nat),x])) λσ2 H2=>n {D with nx:=c (i+1),ct:=c (i+1),bk:=D.nx} σ2 H2) (s:∀a H,c b.length a H->D.nx a H) :
  ∃W:Nat->Nat->St->Hp->Prop,(∃m,W 0 m a H)/\∀i m a H,W i m a H -> ((Jr src).stop i H/\D.nx a H)\/((Jr src).go i H/\∃N:St->Hp->Prop,(∀f d,N f d ->∃o,o <m/\W (i+1) o f d)/\∀x d,(Jr src).yld i H x d ->g x a d λσ2 H2=>n {D with nx:=N,ct:=N,bk:=D.nx} σ2 H2):=by
 refine⟨λi m a H=>m=b.length-i/\i<=b.length/\c i a H,⟨b.length,by simp,M6 _,q⟩,?_⟩;rintro i m a H ⟨rfl,w,p⟩;have l:=u i a H w p
 by_cases h:i<b.length
 .have j:b[i]? =some b[i]:=by simp[h]
  refine .inr ⟨⟨b,_,l,j⟩,c (i+1),λσ' d p' =>⟨b.length-(i+1),by omega,rfl,h,p'⟩,λx d y=> ?_⟩;obtain⟨z,r,rfl,y⟩:=y;have e:=y b _ l j;subst e;exact v i _ z a H j r p
 .have e:i=b.length:=by omega
  subst e;exact .inl ⟨⟨b,l,rfl⟩,s a H p⟩
theorem jv{a:List Int}{i:Nat}(r:aM (a.map V.int) b)(h:b[i]? =some v):∃t,v=.int (a.getD i 0) t:=by have d:=r.length;rw[MT]at d;have g:=(Mh.mp h).1;obtain⟨u,f,c⟩:=r.get (i:=i) (x:=.int (a[i]'(by omega))) (by simp[show i<a.length by omega]);rw[f]at h;cases h;obtain⟨t,e⟩:=c;refine⟨t,?_⟩;rw[e];simp[List.getD,show i<a.length by omega]
theorem jz(a:List Int):∀k,k<=a.length->preSum (λi=>a.getD i 0) k=(a.take k).sum
 |0,_=>by simp[preSum]|k+1,h=>by
  have e:a.take (k+1)=a.take k++[a[k]'(by omega)]:=by simp[show k<a.length by omega]
  rw[preSum,jz a k (by omega),e,List.sum_append];simp[List.getD,show k<a.length by omega]
theorem nC(hc:X.calm=true):bA X (.builtin "sum") (λxs H Q=>∃(p:Addr)(ns:List Int),xs=[.ref p]/\bH X.K H p (ns.map V.int)/\Q (.int ns.sum) H):=by
 intro pins s σ H xs us Q I r h;obtain⟨p,ns,rfl,hq,q⟩:=h;obtain⟨u,rfl,rx⟩:=vals1 r;cases rx;obtain⟨its,r',pl,hz⟩:=I.list hq;have hlen:=r'.length;rw[MT]at hlen;have hp:p<s.heap.objs.size:=by obtain⟨o,e,_⟩:=pl.isList;exact Mi e
 refine call_sum_walkAnyS (P5 pl.isList ?_);refine⟨s.heap.objs.size,_,_,_,its.toArray.size,_,_,(λi=>ns.getD i 0),rfl,(Walks.list (A:=X.A.in1) (I.ok.hd hc) s.heap.objs.size p (Ms hp) its.toArray).toS,⟨⟨_,Mg _ rfl,rfl,rfl⟩,pl.isList.push _⟩,?_,?_,?_⟩
 .intro b hb
  simp at hb
  rcases hb with rfl|rfl
  .rw[size_push'];exact Nat.lt_succ_self _
  .rw[size_push'];exact Np hp
 .intro i v hv
  exact jv r' (by simpa using hv)
 .intro s' t' hm
  obtain⟨m1,m2,m3,m4,m5⟩:=hm;have e:s' ={s with heap:=s'.heap,toks:=s'.toks}:=by cases s';subst m2 m3 m4;rfl
  rw[e];refine⟨.int ns.sum,H,I.kept (λb o z=>m1 b o (by simpa using Ms (Mi z)) (MU _ z)),⟨t',?_⟩,q⟩;rw[Me,<-hlen,jz ns _ (Mc _),OG]
theorem cV:∀{a:List Value}{b:List Int},IntsAre a b->aM (b.map V.int) a
 |_,_,.nil=>.nil|_,_,.cons n t r=>.cons ⟨t,rfl⟩ (cV r)
def sortI(c:List Int):List Int:=c.mergeSort (λa b=>decide (a<=b))
theorem sortI_perm(a:List Int):(sortI a).Perm a:=List.mergeSort_perm _ _
theorem rC(d:List Int):(sortI d).Pairwise (·<=·):=by have:=List.pairwise_mergeSort (le:=λa b:Int=>decide (a<=b)) (λa b c h1 h2=>by simp at *;omega) (λa b=>by simp;omega) d;exact this.imp λh=>by simpa using h
theorem gu(h:c.Perm a)(s:c.Pairwise (·<=·)):c=sortI a := P0 (λa b _ _ h1 h2=>Int.le_antisymm h1 h2) s (rC a) (h.trans (sortI_perm a).symm)
theorem ji:bA X (.builtin "sorted") (λxs H Q=>∃(p:Addr)(ns:List Int),xs=[.ref p]/\bH X.K H p (ns.map V.int)/\ns.length<64/\∀a,H a=none->Q (.ref a) (upd H a (.lst ((sortI ns).map V.int)))):=by intro pins s σ H xs us Q I r h;obtain⟨p,ns,rfl,hq,h64,q⟩:=h;obtain⟨u,rfl,rx⟩:=vals1 r;cases rx;obtain⟨its,r',pl,hz⟩:=I.list hq;have hlen:=r'.length;rw[MT]at hlen;refine sorted_ints pl.isList (intsAre_of r') (by omega) λout ns' a1 a2 a3=> ?_;have e:=gu a2 a3;subst e;obtain⟨c,hc⟩:=sortedAll_at s.heap its out;refine⟨.ref (s.heap.objs.size+1),_,I.laid (λb o z=>sortedAll_old z) (O4 _) ?_,rfl,q _ (I.hok.fresh (O4 _))⟩;refine⟨?_,out.toList,c,cV a1,by simpa [seqObj]using hc⟩;rw[MT,(sortI_perm ns).length_eq];have:=NR;omega
theorem vX{P:Program}{w:World}{K:W.Frag}{a e b:Addr}(f:e≠b)(g:a≠b)(q:a≠e):xy P w K (λH xs=>bH K H a xs) e b (λi h=>h.IsListIter b a i) where
 ne:=f
 obj:=λi h st=>by obtain⟨o,y,_,d⟩:=st;exact⟨o,y,λv z=>by rw[d]at z;cases z⟩
 keep:=λi h h' st k=>st.at k
 inj:=λX pins s σ H xs ys hK I f g=>by subst hK;exact I.list_inj f g
 draws:=λX pins s σ H xs i hP hw hK hc I hs ht=>by
  subst hP hw hK;obtain⟨c,r,p,_⟩:=I.list hs;have D:=Draws.list (prog:=X.prog) (w:=X.w) (A:=X.A.in1) (I.ok.hd hc) b a g c.toArray;rw[Me,<-r.length]at D;refine⟨_,_,_,D,by simp[f,q.symm],⟨ht,p.isList⟩,λj v x hv hx=> ?_,λj h st=>st.1⟩;obtain⟨u,n,m⟩:=r.get hx;have e:c[j]? =some v:=by simpa using hv
  rw[n]at e;cases e;exact m
def Iq(K:W.Frag)(c:TA):TI:=λσ H R=>c σ H λvs H1=>∃a b,vs=[.ref a]/\bH K H1 a b/\R (Jr λH b=>bH K H a b) H1
theorem rg(E:Gl X "enumerate")(w:X.mg "enumerate"=none)(A:PA X [a] i)(C:starEach [a] X.env=[(false,eval a X.env)]:=by rfl) :
  PI X (.Tuple x y d) (.Call (.Name "enumerate" p) [a] [] pos) (Iq X.K i):=by
 intro b s f H R I h;refine Call_ (dB I E w boot_enumerate (NX (aj (A pos b s f H _ I h) λus s1 ⟨vs,H1,I1,r1,q1⟩=> ?_) C rfl));obtain⟨l,J,e,v,q⟩:=q1;subst e;obtain⟨u,rfl,n⟩:=vals1 r1;cases n;obtain⟨D,r,j,_⟩:=I1.list v;have g:l<s1.heap.objs.size:=by obtain⟨o,e,_⟩:=j.isList;exact Mi e
 refine call_enumerate_list j.isList λh' he ge hl hk=> ?_;refine P6 he ?_;refine⟨s1.heap.objs.size+1,[s1.heap.objs.size+1,s1.heap.objs.size],_,_,H1,rfl,I1.kept (t' :=s1.toks) hk,jK (vX (Nat.succ_ne_self _) (Ms g) (Ms (Np g))),⟨⟨_,he⟩,ge⟩,λc hc=> ?_,q⟩;have m:s1.heap.objs.size<=c:=by
  simp only[Ml,NJ,OV]at hc
  rcases hc with rfl|rfl<;>omega
 exact I1.fpOk m (I1.hok.fresh m)
def C8(i j:Int):Prop:=i.natAbs<2^2000/\j.natAbs<2^2000
theorem intBits_le{k:Int}(h:k.natAbs<2^2000):Builtin.Int.intBits k<=2000:=by
 unfold Builtin.Int.intBits
 split;exact M6 _
 .have:k.natAbs.log2<2000:=by
   rcases Nat.eq_zero_or_pos k.natAbs with b|a
   .rw[b];decide
   .exact(Nat.log2_lt (Ni a)).mpr h
  omega
theorem C8.ok(h:C8 i j):IntMulOk i j:=by
 unfold IntMulOk;have h1:=intBits_le h.1;have h2:=intBits_le h.2;have h3:Builtin.Int.intTooBig (Builtin.Int.intBits i+Builtin.Int.intBits j)=false:=by
  have:((4000:Nat):Int)<=bitsLine:=by decide
  exact Mt (by omega)
 rw[h3];simp
theorem EC:dJ X (binaryOp .Mult) (rI C8 λi j=>.int (i*j)):=Jx λ_ _ _ _ _ _ _ hc q=>mul_int q hc.ok
theorem vk:bA X (.builtin "len") (λxs H Q=>∃a kvs,xs=[V.ref a]/\Rd H a (.dK kvs)/\Q (.int kvs.length) H):=by intro pins s σ H xs us Q I r h;obtain⟨a,kvs,rfl,ha,q⟩:=h;obtain⟨u,rfl,ru⟩:=vals1 r;cases ru;exact Lc I ha λt s' I' =>⟨.int kvs.length,H,I',⟨t,rfl⟩,q⟩
theorem t5:bA X (.type "dict") (λxs H Q=>∃a kvs,xs=[V.ref a]/\Rd H a (.dK kvs)/\∀p,H p=none->Q (.ref p) (upd H p (.dK kvs))):=by intro pins s σ H xs us Q I r h;obtain⟨a,kvs,rfl,ha,q⟩:=h;obtain⟨u,rfl,ru⟩:=vals1 r;cases ru;exact CP I ha λp s' hp I' =>⟨.ref p,_,I',rfl,q p hp⟩
theorem Inv.known{o:Obj}(I:Inv X f l H s)(d:H a=some (.dK g))(y:s.heap.get? a=some o):Inv X f l (upd H a (.frz o (.dK g))) s:=by
 have j:∀b h,H b=some (.tup h)->upd H a (.frz o (.dK g)) b=some (.tup h):=λb h e=>by rwa[aA (λz=>by subst z;rw[d]at e;cases e)]
 refine⟨I.ok,I.os,I.bare,⟨I.base.keep,I.base.slot,λb ob e n hx=> ?_,I.base.there,λb h e=>j b h (I.base.tups b h e),λb ob u e=> ?_,λb ps e=> ?_⟩,I.loc,I.cell,?_,λx c e=> ?_,λp hp=> ?_,λb u e=> ?_,I.len⟩
 .have:=I.base.free b ob e n hx
  rwa[aA (λz=>by subst z;rw[d]at this;cases this)]
 .have:=I.base.frzs b ob u e
  rwa[aA (λz=>by subst z;rw[d]at this;cases this)]
 .obtain⟨m,e⟩:=I.base.tbls b ps e
  exact⟨m,by rwa[aA (λz=>by subst z;rw[d]at e;cases e)]⟩
 .rw[aA (λz=>by have:=I.free;rw[z,d]at this;cases this)]
  exact I.free
 .have:=I.freeC x c e
  rwa[aA (λz=>by rw[z,d]at this;cases this)]
 .obtain⟨v,i,w⟩:=I.pin p hp
  exact⟨v,by rwa[aA (λz=>by rw[z,d]at i;cases i)],w⟩
 .by_cases r:b=a
  .subst r
   rw[aB]at e;cases e;refine⟨y,?_⟩;exact(I.hok b _ d).stay (λ_ _ _ q=>q) (λc q=>by rwa[aA (λz=>by subst z;rw[d]at q;cases q)]) j
  .rw[aA r]at e
   exact(I.hok b u e).stay (λ_ _ _ q=>q) (λc q=>by rwa[aA (λz=>by subst z;rw[d]at q;cases q)]) j
def NF(X:Cx)(a:Addr):Prop:=∀o u,X.H₀ a≠some (.frz o u)
theorem Inv.nf(I:Inv X b d H s)(f:H a=some (.dK c)):NF X a:=λo u e=>by have:=I.base.frzs a o u e;rw[f]at this;cases this
theorem Inv.unknown{o:Obj}(I:Inv X f l H s)(w:NF X a)(d:H a=some (.frz o (.dK g))):Inv X f l (upd H a (.dK g)) s:=by
 have j:∀b h,H b=some (.tup h)->upd H a (.dK g) b=some (.tup h):=λb h e=>by rwa[aA (λz=>by subst z;rw[d]at e;cases e)]
 refine⟨I.ok,I.os,I.bare,⟨I.base.keep,I.base.slot,λb ob e n hx=> ?_,I.base.there,λb h e=>j b h (I.base.tups b h e),λb ob u e=> ?_,λb ps e=> ?_⟩,I.loc,I.cell,?_,λx c e=> ?_,λp hp=> ?_,λb u e=> ?_,I.len⟩
 .have:=I.base.free b ob e n hx
  rwa[aA (λz=>by subst z;rw[d]at this;cases this)]
 .have:=I.base.frzs b ob u e
  rwa[aA (λz=>by subst z;exact w _ _ e)]
 .obtain⟨m,e⟩:=I.base.tbls b ps e
  exact⟨m,by rwa[aA (λz=>by subst z;rw[d]at e;cases e)]⟩
 .rw[aA (λz=>by have:=I.free;rw[z,d]at this;cases this)]
  exact I.free
 .have:=I.freeC x c e
  rwa[aA (λz=>by rw[z,d]at this;cases this)]
 .obtain⟨v,i,y⟩:=I.pin p hp
  exact⟨v,by rwa[aA (λz=>by rw[z,d]at i;cases i)],y⟩
 .by_cases r:b=a
  .subst r
   rw[aB]at e;cases e;exact(I.hok b _ d).2.stay (λ_ _ _ q=>q) (λc q=>by rwa[aA (λz=>by subst z;rw[d]at q;cases q)]) j
  .rw[aA r]at e
   exact(I.hok b u e).stay (λ_ _ _ q=>q) (λc q=>by rwa[aA (λz=>by subst z;rw[d]at q;cases q)]) j
def MM(a:Addr)(o:Obj)(b:List (ag×V)):It :=
 ⟨λi H=>H a=some (.frz o (.dK b))/\i<b.length,λi H v H' =>∃p,H p=none/\v=.ref p/\∀k x,b[i]? =some (k,x)->H' =upd H p (.tup [kV k,x]),λi H=>H a=some (.frz o (.dK b))/\i=b.length⟩
theorem Ia{k:ag}{P:Program}(h:(aW P w).is k v=true):RelV (kV k) v:=by
 cases k with
 |inl i =>obtain⟨t,e⟩:=Value.isInt_shape h;exact⟨t,e⟩
 |inr z =>obtain⟨t,e⟩:=Value.isStrOf_shape h;exact⟨t,e⟩
theorem gE:entryFor table "dict_itemiterator.__iter__"=some Builtin.«dict_keyiterator.__iter__» := entryFor_alias (id' :="dict_keyiterator.__iter__") (by kernel_rfl) rfl (by decide +kernel) (by kernel_rfl)
set_option tactic.hygienic true in
theorem uc{P:Program}{w:World}{K:W.Frag}{es:List Expr}{kt:Nat}{L:Pos}{a j:Addr}{o:Obj}{d:List (ag×V)}{g:List (ag×Value)}{O:Nat}{h0:Heap}(a0:a≠j)(C:KV d g)(J:h0.DictAt (aW P w) a g O)(ho:h0.get? a=some o) :
  nF P w K (.Tuple es kt L) (MM a o d) [j] j (λi h=>∃A D,IsItemIter h j a i g.length O A D) where
 mem:=by simp
 obj:=λi h l b hb=>by
  have e:b=j:=by simpa using hb
  subst e;obtain⟨A,D,e⟩:=l;exact⟨_,e,λv z=>by cases z⟩
 keep:=λi h h' l k=>by obtain⟨A,D,e⟩:=l;exact⟨A,D,k j (by simp) _ e⟩
 item:=by
  intro X hP S R hc i n s σ H E I N l hg;subst hP S R;obtain⟨u,U⟩:=hg;obtain⟨A,D,p⟩:=l;have Y:=(I.hok a _ u).1;have f :=J.at' λo' e=>by rw[ho]at e;cases e;exact Y
  obtain⟨⟨k,x⟩,hx⟩:∃q,d[i]? =some q:=⟨d[i],by simp[U]⟩;have T:∀{d:List (ag×V)}{g:List (ag×Value)}{i:Nat}{q:ag×V},KV d g->d[i]? =some q->∃v,g[i]? =some (q.1,v)/\RelV q.2 v:=by
   intro d g i q r
   induction r generalizing i with
   |nil=>intro e;simp at e|cons a t ih =>
    intro e;cases i with
    |zero =>simp at e;subst e;rename_i c _ _;exact⟨c.2,by simp[a.1],a.2⟩
    |succ i=>simpa using ih (by simpa using e)
  obtain⟨v,hv,rv⟩:=T C hx;have M:=Mi p;refine wpAny_pyNext_items_item p f hv λkv h' hkey hout hT hsz hk=> ?_;refine⟨_,rfl,wpAny_letOwnedTupleGo_items hout λh'' he' hs' => ?_⟩;have kk:∀c o,c∉[j]->s.heap.get? c=some o->h''.get? c=some o:=λc o hc' y=>by
   have m:c≠j:=by simpa using hc'
   exact(hs'.2 c m).trans (hk c o m y)
  have I1:Inv X n σ (upd H s.heap.objs.size (.tup [kV k,x])) {s with heap:=h''} :=
   I.drew N kk (Mc _) ⟨by show 2<=sizeLine;decide,[kv,v],.cons (Ia hkey) (.cons rv .nil),⟨_,(hs'.2 _ (Ni M)).trans hT,rfl,_,rfl,rfl⟩⟩
  refine⟨.ref s.heap.objs.size,_,I1,rfl,⟨s.heap.objs.size,I.hok.fresh (Mc _),rfl,λk' x' hx' => ?_⟩,⟨_,_,he'⟩,λc hc' => ?_⟩
  .rw[hx]at hx'
   cases hx';rfl
  .have m:c=j:=by simpa using hc'
   subst m;rw[aA (Ms M)];exact(N c (by simp)).1
 done:=by
  intro X hP S R hc i n s σ H E I N l hg;subst hP S R;obtain⟨u,rfl⟩:=hg;obtain⟨A,D,p⟩:=l;have f :=J.at' λo' e=>by rw[ho]at e;cases e;exact (I.hok a _ u).1
  exact wpAny_pyNext_items_end (I.ok.hd hc) p f (by rw[C.length];simp) λh' hk=>⟨rfl,I.drew0 N λc o hc' y=>hk c o (by simpa using hc') y⟩
 self:=λA i s Q E l h=>by obtain⟨A,D,p⟩:=l;refine PC ⟨_,p,rfl⟩ PySem.F.slot_dict_itemiterator_iter (NE PySem.F.slot_dict_itemiterator_iter ⟨_,p,rfl⟩ gE ?_ (PySem.F.args_dict_itemiterator_iter_1 _));exact MV ⟨_,rfl,"dict_itemiterator",_,⟨_,p,rfl⟩,PySem.F.slot_dict_itemiterator_next.lookup,h⟩
def Im(X:Cx)(c:TE):TI:=λσ H R=>c σ H λx H1=>∃a b,x=.ref a/\H1 a=some (.dK b)/\∀o,NF X a->R (MM a o b) (upd H1 a (.frz o (.dK b)))
theorem sM{o:Expr}(ho:PE X o M)(i:attributeBase o "items" X.env (eval o X.env)=eval o X.env:=by rfl)(j:(d.endLine==g.line)=true:=by rfl) :
  PI X (.Tuple U Y l) (.Call (.Attribute o "items" d) [] [] g) (Im X M):=by
 intro f s L H R I h;refine wpAny_Call_method0_late i j (aj (ho f s L H _ I h) λv s1 hpq=> ?_);obtain⟨x,H1,E,S,a,T,rfl,D,q⟩:=hpq;cases S;obtain⟨z,W,y,A,p⟩:=CM E.hok D;obtain⟨O,r⟩:=p.dictAt;obtain⟨n,Z,b,J,_⟩:=id r;refine⟨"dict","dict.items",PySem.F.plainAttrs_dict,PySem.F.slot_dict_items,PySem.F.type_dict_items,p.typeIs,λb e=> ?_,Ph rfl (PySem.evalArgs_none ?_)⟩
 .cases e
  exact⟨n,b,J.2.1⟩
 refine call_meetsIn PySem.F.slot_dict_items p.typeIs PySem.F.entry_dict_items (PySem.F.args_dict_items_1 _) (meets_dict_items (aW X.prog X.w) a W) ⟨⟨y,p⟩,?_⟩;have C:Inv X f L H1 {s1 with heap:=s1.heap.push {cls:=.type "dict_items",data:=.fields #[.ref a]}}:=E.kept λb u e=>MU _ e;refine wpAny_pyIter_items ⟨_,Mg _ rfl,rfl,rfl⟩ (r.push {cls:=.type "dict_items",data:=.fields #[.ref a]}) ?_;have N:=Mi b;have Q:=C.kept (t' :=s1.toks) (h' :=(s1.heap.push {cls:=.type "dict_items",data:=.fields #[.ref a]}).push {cls:=.type "dict_itemiterator",data:=.fields #[.none,.bool false,.ref a,.int 0 0,.int y.length 0,.int O 0,.none,.none]}) λb u e=>MU _ e;have m:((s1.heap.push {cls:=.type "dict_items",data:=.fields #[.ref a]}).push {cls:=.type "dict_itemiterator",data:=.fields #[.none,.bool false,.ref a,.int 0 0,.int y.length 0,.int O 0,.none,.none]}).get? a=some n:=MU _ (MU _ b);refine⟨(s1.heap.push {cls:=.type "dict_items",data:=.fields #[.ref a]}).objs.size,[(s1.heap.push {cls:=.type "dict_items",data:=.fields #[.ref a]}).objs.size],_,_,_,rfl,Q.known D m,uc (Ms (by rw[size_push'];exact Np N)) A r b,⟨_,_,Mg _ rfl⟩,λc hc=> ?_,q n (E.nf D)⟩;have e:c=(s1.heap.push {cls:=.type "dict_items",data:=.fields #[.ref a]}).objs.size:=by simpa using hc
 subst e;refine(C.fpOk (Mc _) ?_);rw[aA (Ni (by rw[size_push'];exact Np N))];exact C.hok.fresh (Mc _)
def thaw(X:Cx)(D:cE):cE where
 nx:=λσ H=>∃a o b,H a=some (.frz o (.dK b))/\NF X a/\D.nx σ (upd H a (.dK b))
 bk:=λσ H=>∃a o b,H a=some (.frz o (.dK b))/\NF X a/\D.bk σ (upd H a (.dK b))
 ct:=λσ H=>∃a o b,H a=some (.frz o (.dK b))/\NF X a/\D.ct σ (upd H a (.dK b))
 rt:=λv H=>∃a o b,H a=some (.frz o (.dK b))/\NF X a/\D.rt v (upd H a (.dK b))
theorem Dv{t:TS}(h:PS X m t):PS X m (λD l H=>t (thaw X D) l H):=by
 intro i s l H D I p;refine aj (h i s l H _ I p) λf s1 q=> ?_;cases f with
 |next =>obtain⟨b,j,g,a,o,c,e,d,q⟩:=q;exact⟨b,_,g.unknown d e,q⟩
 |brk =>obtain⟨b,j,g,a,o,c,e,d,q⟩:=q;exact⟨b,_,g.unknown d e,q⟩
 |cont =>obtain⟨b,j,g,a,o,c,e,d,q⟩:=q;exact⟨b,_,g.unknown d e,q⟩
 |ret v =>obtain⟨b,x,j,g,n,a,o,c,e,d,q⟩:=q;exact⟨b,x,_,g.unknown d e,n,q⟩
theorem zE{a:Addr}{o:Obj}{b:List (ag×V)}{g:TG}{n:TS}{D:cE}{c:St}{H:Hp}(d:Nat->St->Hp->Prop)(s:d 0 c H)(w:∀i c H,i<=b.length->d i c H->H a=some (.frz o (.dK b)))
  (z:∀i k x p c H,b[i]? =some (k,x)->H p=none->d i c H->g (.ref p) c (upd H p (.tup [kV k,x])) λσ2 H2=>n {D with nx:=d (i+1),ct:=d (i+1),bk:=D.nx} σ2 H2) (v:∀c H,d b.length c H->D.nx c H) :
  ∃W:Nat->Nat->St->Hp->Prop,(∃m,W 0 m c H)/\∀i m c H,W i m c H -> ((MM a o b).stop i H/\D.nx c H)\/((MM a o b).go i H/\∃N:St->Hp->Prop,(∀j f,N j f ->∃q,q <m/\W (i+1) q j f)/\∀x f,(MM a o b).yld i H x f ->g x c f λσ2 H2=>n {D with nx:=N,ct:=N,bk:=D.nx} σ2 H2):=by
 refine⟨λi m c H=>m=b.length-i/\i<=b.length/\d i c H,⟨b.length,by simp,M6 _,s⟩,?_⟩;rintro i m c H ⟨rfl,A,p⟩;have r:=w i c H A p
 by_cases h:i<b.length
 .have l:b[i]? =some b[i]:=by simp[h]
  refine .inr ⟨⟨r,h⟩,d (i+1),λσ' f p' =>⟨b.length-(i+1),by omega,rfl,h,p'⟩,λx f y=> ?_⟩;obtain⟨C,u,rfl,y⟩:=y;have e:=y b[i].1 b[i].2 l;subst e;exact z i _ _ C c H l u p
 .have e:i=b.length:=by omega
  subst e;exact .inl ⟨⟨r,rfl⟩,v c H p⟩
end
namespace RV
end RV
end L2
namespace L2
open PySem PySem.Spec PyProof.Rows
namespace RV
def MN(h:Heap)(a:Addr)(x:Str)(t:Tok)(i:Int):Prop:=∃o,h.get? a=some o/\o.cls=.type "reversed"/\o.data=.fields #[.str x t,rawInt i]
section
variable{prog:Program}{w:World}{A:Around}{E:Value->Shared->Prop}{s:Shared}{x:Str}{t:Tok}{a:Addr}
end
end RV
end L2
namespace L2
open PySem PySem.Spec PyProof.Rows
namespace RV
end RV
end L2
namespace L2
open PySem PySem.Spec PyProof.Rows
namespace RV
open Builtin Builtin.Str Builtin.Int
end RV
end L2
namespace L2
open PySem PySem.Spec PyProof.Rows
section
variable{X:Cx}
set_option tactic.hygienic false
theorem Inv.knownT{o:Obj}(I:Inv X f l H s)(d:H a=some (.dT g))(y:s.heap.get? a=some o):Inv X f l (upd H a (.frz o (.dT g))) s:=by
 have j:∀b h,H b=some (.tup h)->upd H a (.frz o (.dT g)) b=some (.tup h):=λb h e=>by rwa[aA (λz=>by subst z;rw[d]at e;cases e)]
 refine⟨I.ok,I.os,I.bare,⟨I.base.keep,I.base.slot,λb ob e n hx=> ?_,I.base.there,λb h e=>j b h (I.base.tups b h e),λb ob u e=> ?_,λb ps e=> ?_⟩,I.loc,I.cell,?_,λx c e=> ?_,λp hp=> ?_,λb u e=> ?_,I.len⟩
 .have:=I.base.free b ob e n hx
  rwa[aA (λz=>by subst z;rw[d]at this;cases this)]
 .have:=I.base.frzs b ob u e
  rwa[aA (λz=>by subst z;rw[d]at this;cases this)]
 .obtain⟨m,e⟩:=I.base.tbls b ps e
  exact⟨m,by rwa[aA (λz=>by subst z;rw[d]at e;cases e)]⟩
 .rw[aA (λz=>by have:=I.free;rw[z,d]at this;cases this)]
  exact I.free
 .have:=I.freeC x c e
  rwa[aA (λz=>by rw[z,d]at this;cases this)]
 .obtain⟨v,i,w⟩:=I.pin p hp
  exact⟨v,by rwa[aA (λz=>by rw[z,d]at i;cases i)],w⟩
 .by_cases r:b=a
  .subst r
   rw[aB]at e;cases e;refine⟨y,?_⟩;exact(I.hok b _ d).stay (λ_ _ _ q=>q) (λc q=>by rwa[aA (λz=>by subst z;rw[d]at q;cases q)]) j
  .rw[aA r]at e
   exact(I.hok b u e).stay (λ_ _ _ q=>q) (λc q=>by rwa[aA (λz=>by subst z;rw[d]at q;cases q)]) j
theorem Inv.nfT(I:Inv X b d H s)(f:H a=some (.dT c)):NF X a:=λo u e=>by have:=I.base.frzs a o u e;rw[f]at this;cases this
theorem Inv.unknownT{o:Obj}(I:Inv X f l H s)(w:NF X a)(d:H a=some (.frz o (.dT g))):Inv X f l (upd H a (.dT g)) s:=by
 have j:∀b h,H b=some (.tup h)->upd H a (.dT g) b=some (.tup h):=λb h e=>by rwa[aA (λz=>by subst z;rw[d]at e;cases e)]
 refine⟨I.ok,I.os,I.bare,⟨I.base.keep,I.base.slot,λb ob e n hx=> ?_,I.base.there,λb h e=>j b h (I.base.tups b h e),λb ob u e=> ?_,λb ps e=> ?_⟩,I.loc,I.cell,?_,λx c e=> ?_,λp hp=> ?_,λb u e=> ?_,I.len⟩
 .have:=I.base.free b ob e n hx
  rwa[aA (λz=>by subst z;rw[d]at this;cases this)]
 .have:=I.base.frzs b ob u e
  rwa[aA (λz=>by subst z;exact w _ _ e)]
 .obtain⟨m,e⟩:=I.base.tbls b ps e
  exact⟨m,by rwa[aA (λz=>by subst z;rw[d]at e;cases e)]⟩
 .rw[aA (λz=>by have:=I.free;rw[z,d]at this;cases this)]
  exact I.free
 .have:=I.freeC x c e
  rwa[aA (λz=>by rw[z,d]at this;cases this)]
 .obtain⟨v,i,y⟩:=I.pin p hp
  exact⟨v,by rwa[aA (λz=>by rw[z,d]at i;cases i)],y⟩
 .by_cases r:b=a
  .subst r
   rw[aB]at e;cases e;exact(I.hok b _ d).2.stay (λ_ _ _ q=>q) (λc q=>by rwa[aA (λz=>by subst z;rw[d]at q;cases q)]) j
  .rw[aA r]at e
   exact(I.hok b u e).stay (λ_ _ _ q=>q) (λc q=>by rwa[aA (λz=>by subst z;rw[d]at q;cases q)]) j
section
variable{prog:Program}{w:World}{A:Around}{E:Value->Shared->Prop}{s:Shared}{d:Addr}{od:Obj}{es:Array DictEntry}{ep:Nat}
theorem Bk(e:(d==sysModules)=false)(c:s.heap.get? d=some od)(f:od.ExactDict)(a:od.data=.dict es ep)
  (g:Q (.ref s.heap.objs.size) {s with heap:=s.heap.push ⟨.type "dict_keyiterator",none,.fields #[.ref d,.int 0 0,.int es.size 0,.int ep 0],#[]⟩}):wpAny (model prog w) A (pyIter (.ref d)) Q E s:=by
 have b:s.TypeIs (.ref d) "dict":=⟨od,c,f.1⟩
 refine PC b F.slot_dict_iter
  (NE F.slot_dict_iter b F.entry_dict_iter ?_ (F.args_dict_iter_1 _))
 refine MS (MS (wpAny_notOrdered_dict b (MV ?_)));show wpAny _ _ (Builtin.Dict.showsAll d >>= _) _ _ s;unfold Builtin.Dict.showsAll;rw[MY (by rw[e];simp)];refine MS (MV (MS (PD c a (MS (wpAny_dictEpoch c a ?_)))))
 refine MS (NC (MV ⟨_,rfl,"dict_keyiterator",_,⟨_,Mg _ rfl,rfl⟩,F.slot_dict_keyiterator_next.lookup,?_⟩))
 simpa [rawInt]using g
theorem BN(p:s.heap.IsKeyIter b d i es.size ep)(h:s.heap.get? d=some od)(j:od.data=.dict es ep)(m:es[i]? =some e)
  (u:∀o,o.IsKeyIter b d (i+1) es.size ep->Heap.SameBut b s.heap o ->Q (some e.key) {s with heap:=o}):wpAny (model prog w) A (pyNext (.ref b)) Q E s:=by
 obtain⟨v,f,n,a⟩:=id p;have g:=p.typeIs;unfold pyNext
 refine MS (Ob (Nb g F.slot_dict_keyiterator_next (NE F.slot_dict_keyiterator_next g F.entry_dict_keyiterator_next ?_ (F.args_dict_keyiterator_next_1 _))))
 refine MS (MV (MS (MS ?_)))
 first
  |refine MS (Ov g (MV ?_))
  |refine MS (PU g (MV ?_))
 refine MS (wpAny_fieldsOf f a ?_);have l:Builtin.Dict_items.ownsTuple "dict_keyiterator"=false:=by decide
 show wpAny _ _ (ite ((Value.ref d==Value.none)=true) _ _) _ _ s;refine MS (MV (MS (PD h j ?_)));rw[MY (by simp)];refine MS (MV (MS (wpAny_dictEpoch h j ?_)));rw[MY (by simp)];refine MV ?_;have q:i<es.size:=by
  rcases Oq i es.size with z|z
  .exact z
  .rw[PY z]at m
   cases m
 have r:es[i]=e:=by rw[PH q]at m;exact Mx m
 simp only[show¬(i<0)from by omega,Om,Nq,PH q];refine MS ?_
 first
  |refine MS (Ov g (MV ?_))
  |refine MS (PU g (MV ?_))
 refine MS (wpAny_isOneOf_keyiter g ?_);show wpAny _ _ (setField (.ref b) 1 (rawInt (i+1)) >>= _) _ _ s;refine MS (Nu f a (by simp) ?_)
 have c:(s.heap.update b (Obj.mapFields (·.setIfInBounds 1 (rawInt (i+1))))).IsKeyIter b d (i+1) es.size ep :=
  ⟨_,M3 _ f (Nj (NK a _)),(PF ..).trans n,by rw[NK a];simp[rawInt]⟩
 refine MS (NV (MS (wpAny_isOneOf_keyiter c.typeIs ?_)));rw[r];exact MV (MV ⟨_,rfl,MV (u _ c (OF ..))⟩)
theorem E1(r:A.handled=none)(n:s.heap.IsKeyIter l d i es.size ep)(g:s.heap.get? d=some od)(f:od.data=.dict es ep)(q:es.size<=i)
  (u:∀o,Heap.ExtBut l s.heap o ->Q none {s with heap:=o}):wpAny (model prog w) A (pyNext (.ref l)) Q E s:=by
 obtain⟨v,j,p,h⟩:=id n;have c:=n.typeIs;unfold pyNext
 refine MS (Ob (Nb c F.slot_dict_keyiterator_next (NE F.slot_dict_keyiterator_next c F.entry_dict_keyiterator_next ?_ (F.args_dict_keyiterator_next_1 _))))
 refine MS (MV (MS (MS ?_)))
 first
  |refine MS (Ov c (MV ?_))
  |refine MS (PU c (MV ?_))
 refine MS (wpAny_fieldsOf j h ?_);have e:Builtin.Dict_items.ownsTuple "dict_keyiterator"=false:=by decide
 show wpAny _ _ (ite ((Value.ref d==Value.none)=true) _ _) _ _ s;refine MS (MV (MS (PD g f ?_)));rw[MY (by simp)];refine MS (MV (MS (wpAny_dictEpoch g f ?_)));rw[MY (by simp)];refine MV ?_;simp only[show¬(i<0)from by omega,Om,Nq,PY q];refine MS ?_
 first
  |refine MS (Ov c (MV ?_))
  |refine MS (PU c (MV ?_))
 show wpAny _ _ (setField (.ref l) 0 .none >>= _) _ _ s;refine MS (Nu j h (by simp) ?_);refine MS ?_;refine MS (NC ?_ (by size_fits))
 refine MS
  (Nv (by first|rfl|(simp only[firstArgMember];rfl)) ?_)
 refine NC ?_ (by size_fits);refine MS (wpAny_handled ?_);rw[show A.in1.handled=none from r];refine MS (MV (wpAny_throw ?_))
 refine MS
  (Ou ⟨_,Mg _ rfl,rfl⟩ isSubtype_stop ?_)
 exact MV (u _ (((OF ..).extBut.push _).push _))
theorem B8{l:List DictEntry}:∀(_:(l.map (·.hash)).Nodup)(x:_),(l.filter λe=>e.hash==x).length<=1:=by
 induction l with
 |nil=>intro _ x;simp|cons a l f =>
  intro b x;rw[Mm,M9]at b;rw[N7]
  by_cases h:a.hash=x
  .have e:l.filter (λe=>e.hash==x)=[]:=by
    rw[List.filter_eq_nil_iff];intro y c z;exact b.1 (Md.mpr ⟨y,c,by rw[h];exact Mz z⟩)
   rw[e,Ma (by rw[h];exact beq_self_eq_true _)];exact Mc _
  .rw[MY (λz=>h (Mz z))]
   exact f b.2 x
theorem tU{id:String}(ho:s.heap.get? d=some od)(hd:od.data=.dict es ep)(ht:∀e∈es,∃b its,e.key=.ref b/\IsTup s.heap b its)(hn:(es.toList.map (·.hash)).Nodup)(h:Q es s) :
  wpAny (model prog w) A (Builtin.Dict.entriesForEmpty id d) Q E s:=by
 refine MS (PD ho hd ?_);refine MS (PySem.MeetsSeq2.wpAny_forIn_array _ (λaP _ s' =>s' =s/\∀e∈aP,e∈es) _ ?_ ?_ es PUnit.unit ⟨rfl,λe he=>Array.mem_toList_iff.mp he⟩)
 .rintro e aP b s' ⟨rfl,hm⟩
  obtain⟨k,its,ek,it⟩:=ht e (hm e MX);rw[ek];unfold Builtin.Dict.quietEq;refine MS (MS (OT it.typeIs F.slot_tuple_eq.lookup (MV ?_)));have one:¬(Array.filter (λx=>x.hash==e.hash) es).size>1:=by have:=B8 hn e.hash;rw[<- Array.toList_filter]at this;have q:(Array.filter (λx=>x.hash==e.hash) es).toList.length=(Array.filter (λx=>x.hash==e.hash) es).size:=M0;omega
  rw[MY one];exact MV ⟨rfl,λe' he' =>hm e' (MW _ he')⟩
 .rintro b s' ⟨rfl,_⟩
  exact MV h
theorem CQ(hoS:(d==sysModules)=false)(ho:s.heap.get? d=some od)(hc:od.ExactDict)(hd:od.data=.dict es ep)(h0:0<es.size)(hsz:es.size<=sizeLine)
  (ht:∀e∈es,∃b its,e.key=.ref b/\IsTup s.heap b its) (hn:(es.toList.map (·.hash)).Nodup)
  (h:∀h',h'.get? s.heap.objs.size=some ⟨.type "dict",none,.dict es 1,#[]⟩->(∀b q,s.heap.get? b=some q->h'.get? b=some q)->Q (.ref s.heap.objs.size) {s with heap:=h'}) :
  wpAny (model prog w) A (call (.type "dict") [.ref d]) Q E s:=by
 refine callType_codes (Q₁:=λobj s₁=>obj=.ref s.heap.objs.size/\s₁={s with heap:=s.heap.push ⟨.type "dict",none,.dict #[] 0,#[]⟩})
  F.kt_called_dict (F.kt_typeCall_dict_1 _) F.entry_dict_init (kt_code_dict_new _ ⟨rfl,rfl⟩) ?_
 rintro obj s₁ ⟨rfl,rfl⟩;have new:(s.heap.push ⟨.type "dict",none,.dict #[] 0,#[]⟩).get? s.heap.objs.size=some ⟨.type "dict",none,.dict #[] 0,#[]⟩:=Mg _ rfl;have ho' :(s.heap.push ⟨.type "dict",none,.dict #[] 0,#[]⟩).get? d=some od:=MU _ ho;have tn:Shared.TypeIs {s with heap:=s.heap.push ⟨.type "dict",none,.dict #[] 0,#[]⟩} (.ref s.heap.objs.size) "dict":=⟨_,new,rfl⟩;have to:Shared.TypeIs {s with heap:=s.heap.push ⟨.type "dict",none,.dict #[] 0,#[]⟩} (.ref d) "dict":=⟨_,ho',hc.1⟩;refine⟨tn,F.args_dict_init_2 _ _,?_⟩;refine MS ?_;refine MS (wpAny_notOrdered_dict tn (MV ?_));show wpAny _ _ (Builtin.Dict.updateFrom "dict.__init__" s.heap.objs.size (.ref d) [] .none) _ _ _;refine MS (O0 to ?_);refine MS ?_;refine MS ?_;refine MS (Ou to isSubtype_dict_dict ?_);refine MS (OT to F.slot_dict_iter.lookup (MV ?_));refine MS (MV ?_);unfold Builtin.Dict.mergeDict;rw[MY (λz=>absurd (Mz z) (Ni (Mi ho)))];unfold Builtin.Dict.showsAll;rw[MY (by rw[hoS];simp)];refine MS (MV (MS (PD ho' hd ?_)));have nf:(decide (es.size<=8)&&es.all λe=>(keyPart e.key).isSome)=false:=by rw[Bool.and_eq_false_iff];refine .inr ?_;rw[Array.all_eq_false];obtain⟨b,its,e,_⟩:=ht es[0] (Array.getElem_mem h0);exact⟨0,h0,by rw[e];simp[keyPart]⟩
 rw[nf,Ma (by decide)];refine MS (PD new rfl ?_);refine MS (tU ho' hd (λe he=> ?_) hn ?_)
 .obtain⟨b,its,e1,o1,e2,e3⟩:=ht e he
  exact⟨b,its,e1,o1,MU _ e2,e3⟩
 rw[Ma (by simp only[ON,Array.isEmpty_eq_false_iff];intro z;rw[z]at h0;exact absurd h0 (by decide))];refine MS (wpAny_updateDictKeysTo new rfl (MV ?_) (by omega));refine MS (MV (MV ⟨rfl,h _ ?_ λb q e=> ?_⟩))
 .exact M3 _ new rfl
 .exact((OF _ s.heap.objs.size _).2 b (Ms (Mi e))).trans (MU _ e)
end
def Apart(P:Program)(w:World)(a:List (List ag)):Prop:=(a.map (tupleKeyHash (aW P w))).Nodup
theorem Paired.mem2{g f:Type}{F:g->f->Prop}:∀{c:List g}{d:List f},Paired F c d->∀b∈d,∃a∈c,F a b:=by
 intro c d h b e
 induction h with
 |nil=>cases e|cons r t j =>
  rcases Ml.mp e with rfl|e
  .exact⟨_,MX,r⟩
  .obtain⟨a,i,h⟩:=j e
   exact⟨a,MW _ i,h⟩
theorem Paired.keys:∀{a:List (List ag×V)}{b:List (List ag×Addr×Value)},KT H a b->b.map (·.1)=a.map (·.1):=by
 intro a b h
 induction h with
 |nil=>rfl|cons r t c=>rw[Mm,Mm,c,r.1]
theorem Paired.at1{e f:Type}{F:e->f->Prop}:∀{c:List e}{d:List f}{i:Nat}{a:e},Paired F c d->c[i]? =some a->∃b,d[i]? =some b/\F a b
 |_,_,_,_,.nil,h=>by simp at h|_,_,0,_,.cons r t,h=>by simp at h;subst h;exact⟨_,by simp,r⟩
 |_,_,i+1,_,.cons r t,h=>by simpa using Paired.at1 t (by simpa using h)
theorem tz:bA X (.type "dict") (λxs H Q=>∃a kvs,xs=[V.ref a]/\H a=some (.dT kvs)/\kvs≠[]/\Apart X.prog X.w (kvs.map (·.1))/\∀p,H p=none->Q (.ref p) (upd H p (.dT kvs))):=by
 intro pins s σ H xs us Q I r h;obtain⟨a,kvs,rfl,ha,h0,hap,q⟩:=h;obtain⟨u,rfl,ru⟩:=vals1 r;cases ru;obtain⟨z,hd,ys,rel,o,es,ep,h1,h2,h3,h4,h5⟩:=(show ah X.prog X.w H s.heap a (.dT kvs)from I.hok a _ ha);have hl:=Pp rel;have he:es.size=ys.length:=by have:=NG List.length h4;rwa[M0,MT]at this
 have tup:∀e∈es,∃b its,e.key=.ref b/\IsTup s.heap b its:=λe hm=>by have hm:=Array.mem_toList_iff.mpr hm;rw[h4]at hm;obtain⟨y,hy,rfl⟩:=Md.mp hm;obtain⟨kv,_,f⟩:=Paired.mem2 rel y hy;obtain⟨_,its,_,it⟩:=(show ah X.prog X.w H s.heap y.2.1 (.tup _)from I.hok _ _ f.2.1);exact⟨y.2.1,_,rfl,it.tup⟩
 have nd:(es.toList.map (·.hash)).Nodup:=by
  rw[h4,M4];have e:(ys.map ((λx:DictEntry=>x.hash)∘entryOfKey (tupleKind (aW X.prog X.w))))=(ys.map (·.1)).map (tupleKeyHash (aW X.prog X.w)):=by rw[M4];rfl
  rwa[e,Paired.keys rel]
 have pos:0<es.size:=by rw[he,<-hl];exact List.length_pos_iff.mpr h0
 refine CQ hd h1 h2 h3 pos (by rwa[he,<-hl]) tup nd λh' hn hk=> ?_;refine⟨.ref s.heap.objs.size,_,I.laid (o:=.dT kvs) hk (Mc _) ⟨z,OC.mpr (Ni I.big),ys,Paired.imp' (λp y f=>⟨f.1,?_,f.2.2⟩) rel,_,es,1,hn,⟨rfl,rfl,rfl⟩,rfl,h4,h5⟩,rfl,q _ (I.hok.fresh (Mc _))⟩;rw[aA (Ms (I.hok.lt f.2.1))];exact f.2.1
def ML(a:Addr)(o:Obj)(c:List (List ag×V)):It :=
 ⟨λi H=>H a=some (.frz o (.dT c))/\i<c.length,λi H v H' =>H' =H/\∃b,v=.ref b/\∀k x,c[i]? =some (k,x)->H b=some (.tup (k.map kV)),λi H=>H a=some (.frz o (.dT c))/\i=c.length⟩
theorem yP{P:Program}{w:World}{K:W.Frag}{tg:Expr}{a m:Addr}{o:Obj}{c:List (List ag×V)}{p:Array DictEntry}{T:Nat}(L:o.data=.dict p T)(hz:p.size=c.length) :
  nF P w K tg (ML a o c) [m] m (λi h=>h.IsKeyIter m a i p.size T) where
 mem:=by simp
 obj:=λi h g b hb=>by
  have e:b=m:=by simpa using hb
  subst e;obtain⟨Z,e,_,d⟩:=g;exact⟨Z,e,λv z=>by rw[d]at z;cases z⟩
 keep:=λi h h' g k=>g.at λo e=>k m (by simp) o e
 item:=by
  intro X R M A hc i j s Y H E I u g S;obtain⟨l,O⟩:=S;obtain⟨r,z,_,ys,J,o2,n,N,h1,h2,h3,h4,h5⟩:=(show ah X.prog X.w H s.heap a (.frz o (.dT c))from I.hok a _ l);have eo:=Mx (h1.symm.trans r);subst eo;have ed:n=p/\N=T:=by rw[L]at h3;cases h3;exact⟨rfl,rfl⟩
  obtain⟨rfl,rfl⟩:=ed;obtain⟨⟨k,x⟩,hx⟩:∃q,c[i]? =some q:=⟨c[i],by simp[O]⟩;obtain⟨y,hy,f⟩:=Paired.at1 J hx;have he:n[i]? =some (entryOfKey (tupleKind (aW X.prog X.w)) y):=by rw[<- Nh,h4,Mp,hy];rfl
  obtain⟨U,Q,f2,D,C,v⟩:=u m (by simp);refine BN g r L he λh' st' sb=> ?_;obtain⟨Z,e',c',d'⟩:=id st';refine⟨_,rfl,oA e' c' d' (by decide) ⟨.ref y.2.1,H,I.turned (t' :=s.toks) (λb o hb e=>(sb.2 b hb).trans e) U Q D C v,rfl,⟨rfl,y.2.1,rfl,λk' x' hx' => ?_⟩,st',λb hb=>(u b hb).1⟩⟩;rw[hx]at hx';cases hx';exact f.2.1
 done:=by intro X R M A hc i j s Y H E I u g S;obtain⟨l,rfl⟩:=S;obtain⟨r,_⟩:=(show ah X.prog X.w H s.heap a (.frz o (.dT c))from I.hok a _ l);obtain⟨U,Q,f2,D,C,v⟩:=u m (by simp);exact E1 (I.ok.hd hc) g r L (by rw[hz];exact Mc _) λh' eb=>⟨rfl,I.turned (λb o hb e=>eb b o hb e) U Q D C v⟩
 self:=λ_ _ _ _ _ g h=>wpAny_pyIter_keyiter g h
def LX(X:Cx)(c:TE):TI:=λσ H R=>c σ H λx H1=>∃a b,x=.ref a/\H1 a=some (.dT b)/\∀o,NF X a->R (ML a o b) (upd H1 a (.frz o (.dT b)))
theorem wj(C:PE X l m):PI X M l (LX X m):=by
 intro c s v H R I h;refine aj (C c s v H _ I h) λv s1 hpq=> ?_;obtain⟨x,Q,f,y,a,d,rfl,j,q⟩:=hpq;cases y;obtain⟨z,D,S,i,o,n,O,g,r,p,E,T⟩:=(show ah X.prog X.w Q s1.heap a (.dT d)from f.hok a _ j);have A:n.size=d.length:=by have:=NG List.length E;rw[M0,MT]at this;rw[this];exact(Pp i).symm
 refine Bk D g r p ?_;have J:=f.kept (t' :=s1.toks) (h' :=s1.heap.push ⟨.type "dict_keyiterator",none,.fields #[.ref a,.int 0 0,.int n.size 0,.int O 0],#[]⟩) λb o e=>MU _ e;refine⟨s1.heap.objs.size,[s1.heap.objs.size],_,_,_,rfl,J.knownT j (MU _ g),yP p A,⟨_,Mg _ rfl,rfl,rfl⟩,λb hb=> ?_,q o (f.nfT j)⟩;have e:b=s1.heap.objs.size:=by simpa using hb
 subst e;refine(f.fpOk (Mc _) ?_);rw[aA (Ni (Mi g))];exact f.hok.fresh (Mc _)
theorem yj(hu:X.A.units+1<cLine){k:Expr}{tk:TE}(hk:PE X k tk)(hv:PE X v tv):PE X (.Dict [some k] [v] pos) (λσ H Q=>∀p,H p=none->tk σ (upd H p (.dT [])) λy H1=>tv σ H1 λx H2 =>
  ∃b kk,y=.ref b/\H2 b=some (.tup (kk.map kV))/\H2 p=some (.dT [])/\Q (.ref p) (upd H2 p (.dT [(kk,x)]))):=by
 intro pins s σ H Q I q;refine wpAny_Dict_any rfl rfl (by simp) (by show 1<=15;decide) (pairTrees_cons_walk (aj (hk pins _ σ _ _ (I.laid (t' :=s.toks) (λ_ _ q=>MU _ q) (Mc _) (CL s.heap I.big)) (q _ (I.hok.fresh (Mc s.heap.objs.size)))) λky s2 ⟨y,H2,I2,ry,q2⟩=>aj (hv pins _ σ _ _ I2 q2) λvx s3 ⟨x,H3,I3,rx,q3⟩=>pairTrees_nil_walk ?_));obtain⟨b,kk,rfl,hb,hp,q3⟩:=q3;cases ry;obtain⟨z,hd,xs,rel,dd⟩:=GL I3.hok hp;cases rel;unfold storeAll;rw[List.forIn_cons];refine MS (MS (wpAny_dictSet_heap (show X.A.units<cLine by omega) (la I3.hok hb) dd λh' dd' hs=>MV ?_));dsimp only;refine MV ⟨.ref s.heap.objs.size,_,?_,rfl,q3⟩;obtain⟨q,es,ep,hq,h2,h3,h4,_,h5⟩:=dd';have nil:KT H3 ([]:List (List ag×V)) []:=.nil;refine kT I3 (by rw[hp];exact True.intro) hs ⟨q,hq⟩ ⟨by show 1<=sizeLine;decide,hd,_,(nil.put kk hb rx).keeps λc ys ec=> ?_,q,es,ep,hq,h2,h3,h4,h5⟩;rwa[aA (BO ec hp (λz=>nomatch z))]
section
variable{prog:Program}{w:World}{A:Around}{E:Value->Shared->Prop}{s:Shared}
theorem tm(d:IsTup s.heap l b.toArray)(e:b.length<=sizeLine)
  (h:Q b {s with heap:=(s.heap.push (seqObj "list" #[] 0)).update s.heap.objs.size (Obj.mapSeq (·++b.toArray))}):wpAny (model prog w) A (collect (.ref l)) Q E s:=by
 obtain⟨o,g,f,n,i⟩:=id d;refine MS (wpAny_runValue (Nl entry_proto_collect' ?_));show wpAny _ _ (do again (.builtin "list.__iadd__" ⟨[<- newList [],.ref l],[]⟩)) _ _ s
 refine MS (Po (MV ⟨Code.quiet_builtin _ (by decide +kernel),Nl entry_list_iadd' ?_⟩))
 show wpAny _ _ (Builtin.List.listExtendWith (.ref s.heap.objs.size) (.ref l) (.ref s.heap.objs.size))
  _ _ {s with heap:=s.heap.push (seqObj "list" #[] 0)}
 have c:(s.heap.push (seqObj "list" #[] 0)).get? l=some o:=MU _ g;have a:(s.heap.push (seqObj "list" #[] 0)).get? s.heap.objs.size=some (seqObj "list" #[] 0):=Mg _ rfl;refine MS (O0 ⟨o,c,f⟩ ?_);rw[Ma (by rw[show(Value.type "tuple"==Value.type "tuple")=true from rfl];simp)];refine MS (listItems_at c i (MS (listItems_at a rfl ?_)));rw[MY (by simp)]
 refine MS (listUpdate_at a rfl (MV ?_) (M6 _) (by show(#[]++b.toArray).size<=sizeLine+1;simp only[Array.size_append,Me,Of];omega))
 refine MS (wpAny_load (get?_update_seq a _) ?_);show wpAny _ _ (pure ((#[]:Array Value)++b.toArray).toList) Q E _;rw[show((#[]:Array Value)++b.toArray).toList=b by simp];exact MV h
theorem qz(hl:IsTup s.heap l vs.toArray)(hI:IntsAre vs ns)(h64:vs.length<64)
  (h:∀(out:Array Value)(ms:List Int),IntsAre out.toList ms->ms.Perm ns->ms.Pairwise (·<=·)->Q (.ref (s.heap.objs.size+1)) {s with heap:=sortedAll s.heap vs out}):wpAny (model prog w) A (call (.builtin "sorted") [.ref l]) Q E s:=by
 refine P4 kind_sorted plain_sorted entry_sorted (args_sorted1 _) ?_;have hz:vs.length<=sizeLine:=by have:=NR;omega
 refine MS (MV (MS (tm hl hz (MS (Po ?_)))));have sz:((s.heap.push (seqObj "list" #[] 0)).update s.heap.objs.size (Obj.mapSeq (·++vs.toArray))).objs.size=s.heap.objs.size+1:=by rw[Heap.size_update,size_push']
 have at1:(((s.heap.push (seqObj "list" #[] 0)).update s.heap.objs.size (Obj.mapSeq (·++vs.toArray))).push (seqObj "list" vs.toArray 0)).get? (s.heap.objs.size+1)=some (seqObj "list" vs.toArray 0):=by rw[<- sz];exact Mg _ rfl
 rw[sz]
 refine MS (NV (NE slot_list_sort ⟨_,at1,rfl⟩ entry_list_sort (list_sort_tree at1 hI h64 λout ms a1 a2 a3=>⟨_,rfl,MV ⟨_,rfl,h out ms a1 a2 a3⟩⟩) (args_list_sort _)))
end
theorem kK:bA X (.builtin "sorted") (λxs H Q=>∃(p:Addr)(ns:List Int),xs=[.ref p]/\bT X.K H p (ns.map V.int)/\ns.length<64/\∀a,H a=none->Q (.ref a) (upd H a (.lst ((sortI ns).map V.int)))):=by intro pins s σ H xs us Q I r h;obtain⟨p,ns,rfl,hq,h64,q⟩:=h;obtain⟨u,rfl,rx⟩:=vals1 r;cases rx;obtain⟨its,r',pl,hz⟩:=I.tuple hq;have hlen:=r'.length;rw[MT]at hlen;refine qz pl (intsAre_of r') (by omega) λout ms a1 a2 a3=> ?_;have e:=gu a2 a3;subst e;obtain⟨c,hc⟩:=sortedAll_at s.heap its out;refine⟨.ref (s.heap.objs.size+1),_,I.laid (λb o z=>sortedAll_old z) (O4 _) ?_,rfl,q _ (I.hok.fresh (O4 _))⟩;refine⟨?_,out.toList,c,cV a1,by simpa [seqObj]using hc⟩;rw[MT,(sortI_perm ns).length_eq];have:=NR;omega
def KP(X:Cx)(D:cE):cE where
 nx:=λσ H=>∃a o b,H a=some (.frz o (.dT b))/\NF X a/\D.nx σ (upd H a (.dT b))
 bk:=λσ H=>∃a o b,H a=some (.frz o (.dT b))/\NF X a/\D.bk σ (upd H a (.dT b))
 ct:=λσ H=>∃a o b,H a=some (.frz o (.dT b))/\NF X a/\D.ct σ (upd H a (.dT b))
 rt:=λv H=>∃a o b,H a=some (.frz o (.dT b))/\NF X a/\D.rt v (upd H a (.dT b))
theorem rT{t:TS}(h:PS X m t):PS X m (λD l H=>t (KP X D) l H):=by
 intro i s l H D I p;refine aj (h i s l H _ I p) λf s1 q=> ?_;cases f with
 |next =>obtain⟨b,j,g,a,o,c,e,d,q⟩:=q;exact⟨b,_,g.unknownT d e,q⟩
 |brk =>obtain⟨b,j,g,a,o,c,e,d,q⟩:=q;exact⟨b,_,g.unknownT d e,q⟩
 |cont =>obtain⟨b,j,g,a,o,c,e,d,q⟩:=q;exact⟨b,_,g.unknownT d e,q⟩
 |ret v =>obtain⟨b,x,j,g,n,a,o,c,e,d,q⟩:=q;exact⟨b,x,_,g.unknownT d e,n,q⟩
theorem tK{a:Addr}{o:Obj}{c:List (List ag×V)}{g:TG}{q:TS}{D:cE}{H:Hp}(f:Nat->St->Hp->Prop)(u:f 0 d H)(w:∀i d H,i<=c.length->f i d H->H a=some (.frz o (.dT c)))
  (z:∀i k x b d H,c[i]? =some (k,x)->H b=some (.tup (k.map kV))->f i d H->g (.ref b) d H λσ2 H2=>q {D with nx:=f (i+1),ct:=f (i+1),bk:=D.nx} σ2 H2) (v:∀d H,f c.length d H->D.nx d H) :
  ∃W:Nat->Nat->St->Hp->Prop,(∃m,W 0 m d H)/\∀i m d H,W i m d H -> ((ML a o c).stop i H/\D.nx d H)\/((ML a o c).go i H/\∃N:St->Hp->Prop,(∀l h,N l h ->∃r,r <m/\W (i+1) r l h)/\∀x h,(ML a o c).yld i H x h ->g x d h λσ2 H2=>q {D with nx:=N,ct:=N,bk:=D.nx} σ2 H2):=by
 refine⟨λi m d H=>m=c.length-i/\i<=c.length/\f i d H,⟨c.length,by simp,M6 _,u⟩,?_⟩;rintro i m d H ⟨rfl,A,p⟩;have s:=w i d H A p
 by_cases j:i<c.length
 .have n:c[i]? =some c[i]:=by simp[j]
  refine .inr ⟨⟨s,j⟩,f (i+1),λσ' h p' =>⟨c.length-(i+1),by omega,rfl,j,p'⟩,λx h y=> ?_⟩;obtain⟨rfl,b,rfl,y⟩:=y;exact z i _ _ b d _ n (y c[i].1 c[i].2 n) p
 .have e:i=c.length:=by omega
  subst e;exact .inl ⟨⟨s,rfl⟩,v d H p⟩
end
end L2
namespace SQ
open PySem
def lst(m:Nat):List Nat:=(List.range 8).filter λv=>m/2^v%2==1
def put(m v:Nat):Nat:=if m/2^v%2=1 then m else m+2^v
def gS(led:Bool)(m:Nat):SetTable:={mask:=if(lst m).length<5 then 7 else 31,place:=(lst m).toArray,dummies:= #[],finger:=0,led:=led,moves:=if(lst m).length<5 then 0 else 1,plain:=true}
def kL(m v:Nat):Nat:=((lst m).filter (·<v)).length
def cr(led:Bool)(m v:Nat):SetTable:={gS led m with place:=(lst (put m v)).toArray}
def sW(a b:SetTable):Bool:=a.mask==b.mask&&a.place.toList==b.place.toList&&a.dummies.toList==b.dummies.toList&&a.finger==b.finger&&a.led==b.led&&a.moves==b.moves&&a.plain==b.plain
set_option tactic.hygienic false
theorem iH(h:sW a b=true):a=b:=by obtain⟨w,⟨n⟩,⟨z⟩,l,v,q,u⟩:=a;obtain⟨o,⟨m⟩,⟨s⟩,x,p,y,r⟩:=b;simp only[sW,Mb,Nx]at h;obtain⟨⟨⟨⟨⟨⟨e,c⟩,j⟩,g⟩,f⟩,i⟩,d⟩:=h;subst e c j g f i d;rfl
def pO(led:Bool)(m v:Nat):Bool :=
 if m/2^v%2==1 then true else
 (match(gS led m).freeSlot (v:Int)with
  |some (j,d)=>j==v&& !d|none=>false) &&
 sW ((gS led m).put v).1 (cr led m v)&&((gS led m).put v).2==kL m v&&lst (put m v)==(lst m).take (kL m v)++v::(lst m).drop (kL m v)&&(cr led m v).fits (lst (put m v)).length &&
 (if(cr led m v).tooFull then(match(cr led m v).relaid ((lst (put m v)).map Int.ofNat).toArray (SetTable.grown (lst (put m v)).length)with
  |some (t,o)=>sW t (gS led (put m v))&&o.toList==List.range (lst (put m v)).length&&(gS led (put m v)).fits (lst (put m v)).length|none=>false)else sW (cr led m v) (gS led (put m v)))
theorem BY:(List.range 256).all (λm=>(List.range 8).all λv=>pO true m v&&pO false m v&&decide (put m v<256))=true:=by decide +kernel
def GV(m:Nat):Bool:=(List.range (lst m).length).all λi=>SetTable.below (lst m).toArray (if i=0 then 0 else(lst m).getD (i-1) 0+1)==i
theorem zw:(List.range 256).all (λm=>GV m&&SetTable.below (lst m).toArray (if(lst m).length=0 then 0 else(lst m).getD ((lst m).length-1) 0+1)==(lst m).length)=true:=by decide +kernel
theorem B6:(List.range 256).all (λm=>(gS true m).fits (lst m).length&&(gS false m).fits (lst m).length)=true:=by decide +kernel
theorem fits(a:m<256)(led:Bool):(gS led m).fits (lst m).length=true:=by have h:=Mn.mp B6 m (ND.mpr a);rw[Mb]at h;cases led;exact h.2;exact h.1
theorem Eb(b:m<256)(a:v<8)(led:Bool):pO led m v=true/\put m v<256:=by have h:=Mn.mp (Mn.mp BY m (ND.mpr b)) v (ND.mpr a);rw[Mb,Mb,Nc]at h;refine⟨?_,h.2⟩;cases led;exact h.1.2;exact h.1.1
theorem pM:v∈lst m↔v<8/\m/2^v%2=1:=by unfold lst;rw[NL,ND,Nx]
theorem Au(h:v∈lst m):put m v=m:=by unfold put;rw[Ma (pM.mp h).2]
theorem lY(r:m<256)(l:v<8)(s:v∉lst m)(led:Bool) :
  (gS led m).freeSlot (v:Int)=some (v,false)/\(gS led m).put v=(cr led m v,kL m v)/\lst (put m v)=(lst m).take (kL m v)++v::(lst m).drop (kL m v)/\(cr led m v).fits (lst (put m v)).length=true /\ (if(cr led m v).tooFull then(cr led m v).relaid ((lst (put m v)).map Int.ofNat).toArray (SetTable.grown (lst (put m v)).length)=some (gS led (put m v),(List.range (lst (put m v)).length).toArray)/\(gS led (put m v)).fits (lst (put m v)).length=true else cr led m v=gS led (put m v)):=by
 have h:=(Eb r l led).1;unfold pO at h;have q:(m/2^v%2==1)=false:=by
  cases e:m/2^v%2==1
  .rfl
  .exact absurd (pM.mpr ⟨l,by simpa using e⟩) s
 rw[q]at h;simp only[OZ,Om,Mb,Nx]at h;obtain⟨⟨⟨⟨⟨g,n⟩,x⟩,w⟩,u⟩,f⟩:=h;refine⟨?_,Prod.ext (iH n) x,w,u,?_⟩
 .cases e:(gS led m).freeSlot v with
  |none=>rw[e]at g;cases g|some p =>obtain⟨j,d⟩:=p;rw[e]at g;simp only[Mb,Nx,ON]at g;rw[g.1,g.2]
 .by_cases i:(cr led m v).tooFull=true
  .rw[Ma i]at f ⊢
   cases e:(cr led m v).relaid ((lst (put m v)).map Int.ofNat).toArray (SetTable.grown (lst (put m v)).length)with
   |none=>rw[e]at f;cases f|some p =>obtain⟨t,o⟩:=p;rw[e]at f;simp only[Mb,Nx]at f;obtain⟨⟨a,b⟩,c⟩:=f;refine⟨?_,c⟩;obtain⟨o⟩:=o;rw[iH a];have b:o=_:=b;rw[b]
  .rw[MY i]at f ⊢
   exact iH f
def kG:Value->Option Int
 | .int i _=>some i|_=>none
theorem nh(h:kG x=some i):∃t,x=.int i t:=by cases x<;>simp[kG]at h;subst h;exact⟨_,rfl⟩
def fh(a:List (Int×Value))(m:Nat):Prop:=a.map (λe=>(e.1,kG e.2))=(lst m).map λv:Nat=>((v:Int),some (v:Int))
def SX(w:World)(a:Addr)(m:Nat)(h:Heap):Prop:=∃o b c,h.get? a=some o/\o.ExactSet/\o.data=.set b c (gS (!w.params.followText "set-order") m)/\fh b.toList m
theorem li:∀v,v<8->hashInt (v:Nat)=(v:Nat):=by decide +kernel
theorem fh.len(h:fh a m):a.length=(lst m).length:=by
 have:=NG List.length h
 simpa using this
theorem IF(h:v∈lst m):v<8:=(pM.mp h).1
theorem fh.at(h:fh a m)(b:e∈a):∃v t,v∈lst m/\e=((v:Int),.int (v:Int) t):=by have:(e.1,kG e.2)∈a.map (λe=>(e.1,kG e.2)):=Md.mpr ⟨e,b,rfl⟩;rw[h]at this;obtain⟨v,c,q⟩:=Md.mp this;obtain⟨d,f⟩:=e;simp only[Prod.mk.injEq]at q;obtain⟨t,z⟩:=nh q.2.symm;exact⟨v,t,c,by rw[z,<-q.1]⟩
theorem fh.has(h:fh b m)(c:v∈lst m):∃t,((v:Int),Value.int (v:Int) t)∈b:=by
 have:((v:Int),some (v:Int))∈(lst m).map λv:Nat=>((v:Int),some (v:Int)):=Md.mpr ⟨v,c,rfl⟩;rw[<- h]at this;obtain⟨e,a,q⟩:=Md.mp this;obtain⟨u,t,-,rfl⟩:=h.at a;have:u=v:=by omega
 subst this;exact⟨t,a⟩
section
variable{prog:Program}{w:World}{A:Around}{E:Value->Shared->Prop}{s:Shared}
theorem fh.elems(h:fh a m):ElemsOf (intKind prog w) a:=by intro e b;obtain⟨v,t,c,rfl⟩:=h.at b;exact⟨⟨v,by simp[intKind,Value.isInt],(li v (IF c)).symm⟩,rfl⟩
theorem fh.insert{t:Nat}(h:fh a.toList m)(e:m<256)(c:v<8)(b:v∉lst m):fh (SetTable.insertAt a (kL m v) ((v:Int),.int (v:Int) t)).toList (put m v):=by obtain⟨-,-,d,-,-⟩:=lY e c b true;unfold fh at h ⊢;rw[d,SetTable.toList_insertAt,Mr,Mm,List.map_take,List.map_drop,h,Mr,Mm,List.map_take,List.map_drop];rfl
theorem L6{tk:Tok}(hm:m<256)(hv:v<8)(hS:SX w a m s.heap)(h:∀h' b,Heap.SameBut a s.heap h' ->SX w a (put m v) h' ->Q b {s with heap:=h'}) :
  wpAny (model prog w) A (setAddHashed a (.int (v:Int) tk) (hashInt (v:Nat))) Q E s:=by
 obtain⟨o,es,ep,ho,hex,hd,he⟩:=hS
 generalize hled:(!w.params.followText "set-order")=led at hd
 have hsz:es.size=(lst m).length:=he.len;have hf:(gS led m).fits es.size=true:=by rw[hsz];exact fits hm led
 have hel:ElemsOf (intKind prog w) es.toList:=he.elems;have h8:(lst m).length<=8:=by unfold lst;exact M8 (NM _ _) (by simp)
 have hb:es.size<scanBound:=by rw[hsz];unfold scanBound;omega
 have hkey:(intKind prog w).is v (.int v tk)=true:=by simp[intKind,Value.isInt]
 refine NV (MS (Pf ho hd hf ?_));dsimp only;rw[byScan_of rfl hb hel,Ma rfl];refine MS (MS (Pm (MS (wpAny_setScan_of hkey ho hd hf hel ?_))));cases hr:List.findIdx? (λe=>(intKind prog w).is v e.2) es.toList with
 |some j =>
  refine MV (MV ?_);have hin:v∈lst m:=by
   obtain⟨hj,hp,-⟩:=List.findIdx?_eq_some_iff_getElem.mp hr;obtain⟨u,t,hu,z⟩:=he.at (OI hj);rw[z]at hp;have hp:Value.isInt v (.int u t)=true:=hp;obtain⟨t',e⟩:=Value.isInt_shape hp;have e2:u=v:=by
    injection e with e1 e2
    omega
   rwa[<- e2]
  have:=h s.heap false (Heap.SameBut.refl a s.heap) (by rw[Au hin];exact⟨o,es,ep,ho,hex,by rwa[hled],he⟩);exact this
 |none =>
  have hn:v∉lst m:=λhin=>by obtain⟨t,z⟩:=he.has hin;have:=List.findIdx?_eq_none_iff.mp hr _ z;simp[intKind,Value.isInt]at this
  obtain⟨k1,k2,k3,k4,k5⟩:=lY hm hv hn led;have hE:=he.insert (t:=tk) hm hv hn;have hl:=hE.len;have hl2:(lst (put m v)).length<=8:=by unfold lst;exact M8 (NM _ _) (by simp)
  have eL:layNew (gS led m) es (hashInt v) (.int v tk)=(SetTable.insertAt es (kL m v) (v,.int v tk),cr led m v,false,false):=by
   unfold layNew;rw[li v hv,k1];dsimp only;rw[k2];have z:(cr led m v).fits (SetTable.insertAt es (kL m v) (v,.int v tk)).size=true:=by rwa[<- M0,hl]
   unfold SetTable.orStandIn;rw[z];rfl
  rw[eL];refine MS ((MV ?_:wpAny (model prog w) A (pure ()) _ E _));have hplain:(cr led m v).plain=true:=rfl;refine MS (MV ?_);have hpk:plainKind (.int v tk)=true:=rfl;simp only[hpk,PN];have hz1:(SetTable.insertAt es (kL m v) (v,.int v tk)).size<=sizeLine:=by rw[<- M0,hl,NR];omega
  refine MS (wpAny_storeSet_of ho hd ?_ hz1);have ho1:(s.heap.update a (Obj.putSet (SetTable.insertAt es (kL m v) (v,.int v tk)) (cr led m v))).get? a=some {o with data:=.set (SetTable.insertAt es (kL m v) (v,.int v tk)) (ep+1) (cr led m v)}:=by have z:=M3 (Obj.putSet (SetTable.insertAt es (kL m v) (v,.int v tk)) (cr led m v)) ho (by rw[putSet_of _ _ hd];rfl);rwa[putSet_of _ _ hd]at z
  have sb1:=OF s.heap a (Obj.putSet (SetTable.insertAt es (kL m v) (v,.int v tk)) (cr led m v));have nd:(!false&&(cr led m v).tooFull)=(cr led m v).tooFull:=rfl;rw[nd]
  by_cases ht:(cr led m v).tooFull=true
  .rw[Ma ht]at k5 ⊢
   have er:relayAll (cr led m v) (SetTable.insertAt es (kL m v) (v,.int v tk)) (SetTable.grown (SetTable.insertAt es (kL m v) (v,.int v tk)).size)=(SetTable.insertAt es (kL m v) (v,.int v tk),gS led (put m v),false):=by
    generalize hg:SetTable.insertAt es (kL m v) (v,.int v tk)=es1 at hE hl ⊢
    have hm1:es1.map (·.1)=((lst (put m v)).map Int.ofNat).toArray:=by
     apply Array.toList_inj.mp
     rw[Array.toList_map];have:=NG (List.map Prod.fst) hE;rwa[M4,M4]at this
    have hz:es1.size=(lst (put m v)).length:=by rw[<- M0,hl]
    unfold relayAll;rw[hm1,hz,k5.1];dsimp only;have hf2:(List.range (lst (put m v)).length).toArray.filterMap (es1[·]?)=es1:=by
     apply Array.toList_inj.mp
     rw[Array.toList_filterMap,<-hz];exact filterMap_getElem?_range es1
    rw[hf2,hz,k5.2];have:coversAll (List.range (lst (put m v)).length).toArray (lst (put m v)).length=true:=by unfold coversAll;exact List.isPerm_iff.mpr (List.Perm.refl _)
    rw[this];rfl
   rw[er];refine MS ((MV ?_:wpAny (model prog w) A (pure ()) _ E _));refine MS (wpAny_storeSet_of ho1 rfl ?_ hz1);refine MV (MV ?_);have z:=M3 (Obj.putSet (SetTable.insertAt es (kL m v) (v,.int v tk)) (gS led (put m v))) ho1 (by rw[putSet_of _ _ rfl];rfl);rw[putSet_of _ _ rfl]at z;exact h _ _ (sb1.trans (OF _ a _)) ⟨_,_,_,z,hex,by rw[hled],hE⟩
  .rw[MY ht]at k5 ⊢
   refine MV (MV ?_);exact h _ _ sb1 ⟨_,_,_,ho1,hex,by rw[hled,<-k5],hE⟩
end
def oz(f:Nat->Nat):Nat->Nat->Nat->Nat
 |0,_,m=>m|k+1,i,m=>oz f k (i+1) (put m (f i))
theorem SX.at(x:SX w a m h)(k:∀o,h.get? a=some o->b.get? a=some o):SX w a m b :=
 let⟨o,es,ep,ho,r⟩:=x
 ⟨o,es,ep,k o ho,r⟩
section
variable{prog:Program}{w:World}{A:Around}{E:Value->Shared->Prop}
theorem II{G:Array GenState->Array GenState->Prop}{P:Nat->Value->Prop}{St:Nat->Shared->Prop}(W:WalksS prog w A.in1 I fp wr G n P St)(hD:D∉fp)(f:Nat->Nat)(hf:∀i v,P i v->f i<8/\∃t,v=.int (f i:Nat) t) :
  ∀(k i:Nat)(s:Shared)(m:Nat),n-i=k->i<=n->St i s->m<256->SX w D m s.heap->(∀s',Moved (D::wr) G s s' ->SX w D (oz f k i m) s'.heap->R (.ok (.ret .none)) s') -> codeAny (model prog w) A (.builtin "set.update.loop" ⟨[.ref D,.ref I],[]⟩) R s:=by
 have hDw:=λz=>hD (W.sub _ z);have sub:∀b∈wr,b∈D::wr:=λb z=>MW _ z;intro k
 induction k with
 |zero =>
  intro i s m hk hi st hm hS hR;have e:i=n:=by omega
  subst e;refine Nl PyProof.Rows.F.entry_set_update_loop ?_;refine MS (W.done s _ _ st λs' mv=> ?_);exact MV (hR s' (mv.mono sub) (hS.at λo z=>mv.heap D o hDw z))
 |succ k ih =>
  intro i s m hk hi st hm hS hR;have lt:i<n:=by omega
  refine Nl PyProof.Rows.F.entry_set_update_loop ?_;refine MS (W.item i s _ _ lt st λv s' hP st' mv=> ?_);obtain⟨h8,t,rfl⟩:=hf i v hP;refine MS (NV ?_);refine NV (MS ((intKind prog w).pyHash (k:=f i) (by simp[intKind,Value.isInt]) ?_));refine L6 hm h8 (hS.at λo z=>mv.heap D o hDw z) λh' b sb hS2=> ?_;refine MV ⟨Oo PJ _,ih (i+1) _ _ (by omega) lt (W.frame _ s' h' _ st' (O4 _) λc hc o z=> ?_) (Eb hm h8 true).2 hS2 λs2 mv2 hS3=> ?_⟩
  .rw[sb.2 c λ q=>hD (by rwa[<- q])]
   exact z
  .refine hR s2 (Moved.trans W.gtrans ((mv.mono sub).then_heap (O4 _) λc o hc z=> ?_) mv2) hS3
   rwa[sb.2 c λ q=>hc (by rw[q];exact MX)]
variable{s:Shared}
def bare(led:Bool):Obj:={cls:=.type "set",dict:=none,data:=.set #[] 0 (.fresh 0 0 led)}
theorem Fd(e:h.get? a=some (bare (!w.params.followText "set-order"))):SX w a 0 h:=by
 refine⟨_,#[],0,e,⟨rfl,rfl,rfl⟩,?_,by unfold fh;rfl⟩;unfold bare;have:gS (!w.params.followText "set-order") 0=.fresh 0 0 (!w.params.followText "set-order"):=by cases w.params.followText "set-order"<;>exact iH (by decide +kernel)
 rw[this]
theorem LI(v:Value){Q:Value->Shared->Prop}(h:Q (.ref s.heap.objs.size) {s with heap:=s.heap.push (bare (!w.params.followText "set-order"))}) :
  codeAny (model prog w) A (.call (.builtin "set.__new__") ⟨[.type "set",v],[]⟩) (wants Q E) s:=by
 refine codeAny_of_tree ?_;refine MS (Nv (F.newCall_set_1 v) (MV ⟨Oo F.plain_set_new _,Nl F.entry_set_new ?_⟩));unfold Builtin.«set.__new__» Builtin.Frozenset.newClass;have a:=sub_set_self;obtain⟨b,g,d,c,e⟩:=s;dsimp only
 wp_walk
 refine PQ (MV ?_);refine MS (wpAny_alloc (MV ?_));exact MV h
set_option tactic.hygienic true
set_option maxHeartbeats 3200000 in
theorem Kl{l:Addr}{its:Array Value}{f:Nat->Nat}{Q:Value->Shared->Prop}(hh:A.handled=none)(hl:s.heap.IsList l its)(hi:∀i v,its[i]? =some v->f i<8/\∃t,v=.int (f i:Nat) t)
  (h:∀(h' :Heap)(tk:Nat),SX w s.heap.objs.size (oz f its.size 0 0) h' ->(∀b o,b<s.heap.objs.size->s.heap.get? b=some o->h'.get? b=some o)->Q (.ref s.heap.objs.size) {s with heap:=h',toks:=tk}) :
  wpAny (model prog w) A (call (.type "set") [.ref l]) Q E s:=by
 obtain⟨c,tl,mro⟩:=F.called_set.mro;have made:=F.called_set.made;have sub:=F.called_set.sub;refine wpAny_call (codeAny_of_tree ?_);show wpAny _ _ (callAny (.type "set") _) _ _ _;refine MV ⟨Code.quiet_builtin _ (by decide +kernel),Nl F.entry_type_call ?_⟩;rw[Around.under_plain (weight_type_call_type "set" [.ref l] []) rfl];have n1:=F.called_set.notType;have n2:=F.called_set.canCreate;have n3:=F.typeCall_set_1 (.ref l)
 repeat(any_goals (first|assumption|wp_step))
 refine Pg (LI (.ref l) (E:=E) (Q:=fun ob s₁=>ob=.ref s.heap.objs.size/\s₁={s with heap:=s.heap.push (bare (!w.params.followText "set-order"))}) ⟨rfl,rfl⟩) fun r s₁ hr=> ?_;cases r with
 | error e=>exact hr
 | ok fl =>
  cases fl with
  | ret ob =>
   obtain⟨rfl,rfl⟩:=hr;have hS:(s.heap.push (bare (!w.params.followText "set-order"))).get? s.heap.objs.size=some (bare (!w.params.followText "set-order")):=Mg _ rfl;have hT:Shared.TypeIs {s with heap:=s.heap.push (bare (!w.params.followText "set-order"))} (.ref s.heap.objs.size) "set":=⟨_,hS,rfl⟩;have m1:=F.called_set.init.lookup;have m2:=F.called_set.init.bind (.ref s.heap.objs.size)
   repeat(any_goals (first|assumption|wp_step))
   refine Pg (codeAny_call_builtin (R:=wants (fun r s₂=>r=.none/\∃h' tk,s₂={s with heap:=h',toks:=tk}/\SX w s.heap.objs.size (oz f its.size 0 0) h' /\(∀b o,b<s.heap.objs.size->s.heap.get? b=some o->h'.get? b=some o)) E) F.called_set.init.plain F.entry_set_init (check_set_init_1 hT ?_)) fun r₂ s₂ hr₂=> ?_
   .obtain⟨ol,hol,cl,nl,dl⟩:=hl
    obtain⟨oc,od,ot,os⟩:=ol;simp only at cl dl;subst cl dl;have hol' :(s.heap.push (bare (!w.params.followText "set-order"))).get? l=some {cls:=.type "list",dict:=od,data:=.seq its nl,slots:=os}:=MU _ hol;have q1:=F.sub_list_set;have q2:=F.sub_list_frozenset;have q3:(Value.type "list"==Value.type "dict")=false:=by decide
    have hl1:(s.heap.push (bare (!w.params.followText "set-order"))).IsList l its:=⟨_,hol',rfl,nl,rfl⟩;unfold Builtin.«set.__init__» noKeywords Builtin.Frozenset.updateFrom
    generalize hPI:pyIter=PI
    wp_walk
    subst hPI;refine P5 hl1 (MS (wpAny_runValue ?_));have lS:l<s.heap.objs.size:=Mi hol;have h3:A.in1.in1.in1.handled=none:=by simp[hh]
    have nI:l≠(s.heap.push (bare (!w.params.followText "set-order"))).objs.size:=by
     rw[OP];exact Ms (Np lS)
    have nf:s.heap.objs.size∉[(s.heap.push (bare (!w.params.followText "set-order"))).objs.size,l]:=by
     rw[OP];simp only[Ml,NJ,OV,Pd];exact⟨Ms (Nat.lt_succ_self _),Ni lS⟩
    refine II ((Walks.list h3 _ l nI its).toS) nf f hi its.size 0 _ 0 (by omega) (M6 _) ⟨⟨_,Mg _ rfl,rfl,rfl⟩,hl1.push _⟩ (by omega) (Fd (MU _ hS)) ?_;intro s' mv hS';obtain⟨h',g',d',tk',os'⟩:=s';have e1:g' =s.gens:=mv.gens;have e2:d' =s.drawn:=mv.drawn;have e3:os' =s.os:=mv.os;subst e1 e2 e3;show wpAny _ _ _ _ _ _;refine MV ?_;show wpAny _ _ (ret Value.none) _ _ _;refine MV ⟨rfl,h',tk',rfl,hS',fun b o hb e=> ?_⟩;refine mv.heap b o ?_ (MU _ (MU _ e));have z1:b≠s.heap.objs.size:=Ms hb;have z2:b≠(s.heap.push (bare (!w.params.followText "set-order"))).objs.size:=by
     rw[OP];exact Ms (Np hb)
    simp only[Ml,NJ,OV,Pd];exact⟨z1,z2⟩
   .cases r₂ with
    | error e=>exact hr₂
    | ok fl₂ =>
     cases fl₂ with
     | ret r =>
      obtain⟨rfl,h',tk,rfl,hS',hk'⟩:=hr₂
      repeat(any_goals (first|assumption|wp_step))
      exact h _ _ hS' hk'
     | _=>exact hr₂.elim
  | _=>exact hr.elim
end
theorem vW:entryFor table "set.__iter__"=some Builtin.«frozenset.__iter__» := entryFor_alias (id' :="frozenset.__iter__") (by kernel_rfl) rfl (by decide +kernel) (by kernel_rfl)
theorem cg:Slot "set_iterator" "__next__" "set_iterator.__next__" :=
 .of (owner:="set_iterator") (n:="__next__") (by rw[Oj,N2];kernel_rfl) (by decide +kernel) (by decide +kernel) (by decide +kernel)
  (by first|exact .inl (by decide +kernel)|exact .inr (by decide +kernel)) (by rw[PL];kernel_rfl)
theorem l7:entryFor table "set_iterator.__next__"=some Builtin.«set_iterator.__next__»:=entryFor_of_tree (by kernel_rfl)
theorem oW(a:Value):argsOk "set_iterator.__next__" ⟨[a],[]⟩:=by
 kernel_rfl
theorem wg{b:Type}(f:Nat->Nat):∀(k i:Nat)(l:List b)(o:Array b),l.length=k->(pickOrder.go f k i l o).toList.Perm (o.toList++l)
 |0,i,l,o,h=>by have:l=[]:=List.eq_nil_of_length_eq_zero h;subst this;unfold pickOrder.go;simp
 |k+1,i,l,o,h=>by
  unfold pickOrder.go;have a:f i%l.length<l.length:=Nat.mod_lt _ (by omega);rw[Mk a];refine(wg f k (i+1) _ _ (by rw[List.length_eraseIdx,Ma a];omega)).trans ?_;rw[Array.toList_push,Ny];refine List.Perm.append_left _ ?_;have e:l=l.take (f i%l.length)++l[f i%l.length]::l.drop (f i%l.length+1):=by rw[<- Od a,List.take_append_drop]
  rw[List.eraseIdx_eq_take_drop_succ];refine List.Perm.trans ?_ (List.Perm.of_eq e.symm);rw[List.singleton_append];exact List.perm_middle.symm
theorem nX{b:Type}(f:Nat->Nat)(a:Array b):(pickOrder f a).toList.Perm a.toList:=by
 have:=wg f a.size 0 a.toList #[] rfl
 simpa [pickOrder]using this
section
variable{prog:Program}{w:World}{A:Around}{E:Value->Shared->Prop}{s:Shared}
structure Ord(w:World)(a m ep:Nat)(es:Array (Int×Value))(vs:List Value)(sl:Nat->Nat):Prop where
 len:vs.length=es.size
 perm:vs.Perm (es.toList.map (·.2))
 go:∀{prog:Program}{A:Around}{E:Value->Shared->Prop}{s:Shared}{o:Obj}(i:Nat)(Q:Option (Value×Nat)->Shared->Prop),s.heap.get? a=some o->o.data=.set es ep (gS (!w.params.followText "set-order") m) ->
  Q ((vs[i]?).map fun v=>(v,sl (i+1))) s->i<=es.size->wpAny (model prog w) A (setNext a (sl i) i ep) Q E s
theorem KM(a:m<256):(∀i,i<(lst m).length->SetTable.below (lst m).toArray (if i=0 then 0 else(lst m).getD (i-1) 0+1)=i)/\SetTable.below (lst m).toArray (if(lst m).length=0 then 0 else(lst m).getD ((lst m).length-1) 0+1)=(lst m).length:=by
 have h:=Mn.mp zw m (ND.mpr a);rw[Mb,Nx]at h;refine⟨λi hi=> ?_,h.2⟩;have:=Mn.mp h.1 i (ND.mpr hi)
 simpa using this
set_option tactic.hygienic true in
theorem K9{a ep:Nat}(g:m<256)(C:fh b.toList m):∃y r,Ord w a m ep b y r/\r 0=0:=by
 have p:b.size=(lst m).length:=C.len;cases f:w.params.followText "set-order" with
 |true =>
  refine⟨(pickOrder (w.params.setOrder a ep) b).toList.map (·.2),λ_=>0,⟨?_,(nX _ _).map _,λ{prog A E s o} i Q ho hd q hi=> ?_⟩,rfl⟩
  .rw[MT,(nX _ _).length_eq,M0]
  .have d:(gS (!w.params.followText "set-order") m).fits b.size=true:=by rw[p];exact fits g _
   refine MS (Pf ho hd d ?_);refine MS (MS (PQ (MV ?_)));rw[show(model prog w).w.params.followText "set-order"=true from f,Ma rfl,MY (by simp)];refine MS (MS (Pf ho hd d ?_));refine MS (MS (PQ (MV ?_)));rw[show(model prog w).w.params.followText "set-order"=true from f,Ma rfl];refine MS (PQ (MV (MV ?_)));have:((pickOrder (w.params.setOrder a ep) b)[i]?).map (λe=>(e.2,0))=(((pickOrder (w.params.setOrder a ep) b).toList.map (·.2))[i]?).map λv=>(v,0):=by rw[Mp,Nh];cases(pickOrder (w.params.setOrder a ep) b)[i]? <;>rfl
   rwa[<- this]at q
 |false =>
  refine⟨b.toList.map (·.2),λi=>if i=0 then 0 else(lst m).getD (i-1) 0+1,⟨by simp,List.Perm.refl _,λ{prog A E s o} i Q ho hd q hi=> ?_⟩,rfl⟩;have d:(gS (!w.params.followText "set-order") m).fits b.size=true:=by rw[p];exact fits g _
  refine MS (Pf ho hd d ?_);dsimp only;refine MS (MS (PQ (MV ?_)));rw[show(model prog w).w.params.followText "set-order"=false from f,MY MZ,f]
  split
  .rename_i z
   exact absurd (show false=true from z) MZ
  refine MS ((MV ?_:wpAny (model prog w) A (pure ()) _ E _));have n:=KM g;have u:(gS (!false) m).place=(lst m).toArray:=rfl;rw[u];have c:SetTable.below (lst m).toArray (if i=0 then 0 else(lst m).getD (i-1) 0+1)=i:=by
   rcases Oq i (lst m).length with h|h
   .exact n.1 i h
   .have e:i=(lst m).length:=by omega
    rw[e];exact n.2
  rw[c]
  have:(match b[i]?,(lst m).toArray[i]? with
   |some (_,x),some j=>some (x,j+1)|_,_=>none)=((b.toList.map (·.2))[i]?).map λv=>(v,if i+1=0 then 0 else(lst m).getD (i+1-1) 0+1):=by
   rw[Mp,Nh]
   rcases Oq i b.size with h|h
   .have l:i<(lst m).length:=by omega
    rw[PH h,List.getElem?_toArray,Mk l];simp[l]
   .rw[PY h,List.getElem?_toArray,Ng (by omega)]
    rfl
  rw[<- this]at q;exact MV q
end
theorem nQ:Slot "set_iterator" "__iter__" "set_iterator.__iter__" :=
 .of (owner:="set_iterator") (n:="__iter__") (by rw[Oj,N2];kernel_rfl) (by decide +kernel) (by decide +kernel) (by decide +kernel)
  (by first|exact .inl (by decide +kernel)|exact .inr (by decide +kernel)) (by rw[PL];kernel_rfl)
theorem vV:entryFor table "set_iterator.__iter__"=some Builtin.«dict_keyiterator.__iter__» := entryFor_alias (id' :="dict_keyiterator.__iter__") (by kernel_rfl) rfl (by decide +kernel) (by kernel_rfl)
theorem zR(a:Value):argsOk "set_iterator.__iter__" ⟨[a],[]⟩:=by
 kernel_rfl
def zY(I a i n b j:Nat)(h:Heap):Prop:=∃o,h.get? I=some o/\o.cls=.type "set_iterator"/\o.data=.fields #[.int (j:Nat) 0,.int (i:Nat) 0,.ref a,.int (n:Nat) 0,.int (b:Nat) 0]
theorem zY.typeIs{s:Shared}(x:zY I a i n b j s.heap):s.TypeIs (.ref I) "set_iterator":=let⟨o,ho,hc,_⟩:=x;⟨o,ho,hc⟩
theorem zY.keep{h':Heap}(x:zY I a i n b j h)(k:∀o,h.get? I=some o->h'.get? I=some o):zY I a i n b j h' :=let⟨o,ho,r⟩:=x;⟨o,k o ho,r⟩
section
variable{prog:Program}{w:World}{A:Around}
set_option tactic.hygienic true
set_option maxHeartbeats 3200000 in
theorem GU(hh:A.handled=none){I a m ep:Nat}{es:Array (Int×Value)}{vs:List Value}{sl:Nat->Nat}{so:Obj}(hne:a≠I)(hm:m<256)(he:fh es.toList m)(hd:so.data=.set es ep (gS (!w.params.followText "set-order") m))(O:Ord w a m ep es vs sl) :
  Walks prog w A I [I,a] [I] vs.length (fun i v=>vs[i]? =some v) (fun i h=>zY I a i es.size ep (sl i) h/\h.get? a=some so) where
 sub:=fun b hb=>by simp at hb;simp[hb]
 frame:=fun _ _ _ st hk=>⟨st.1.keep fun o e=>hk I (by simp) o e,hk a (by simp) so st.2⟩
 item:=fun i s Q E hi st hQ=>by
  obtain⟨it,ha⟩:=st;obtain⟨o,ho,hc,hdt⟩:=id it;have hf:(gS (!w.params.followText "set-order") m).fits es.size=true:=by rw[show es.size=(lst m).length from he.len];exact fits hm _
  have hx:vs[i]? =some vs[i]:=Mk hi;unfold pyNext;refine MS (Ob (Nb (name:=Str.ofString "__next__") it.typeIs cg (NE cg it.typeIs l7 ?_ (oW _))));unfold Builtin.«set_iterator.__next__»;refine MS (m:=slotArgs _ _ _) (MV ?_);refine MS (wpAny_fieldsOf ho hdt ?_);dsimp only;refine MS (wpAny_setEntries_of ha hd hf ?_);rw[MY (by simp)];refine MS (O.go i _ ha hd ?_ (by have:=O.len;omega));rw[hx];dsimp only[Option.map];refine MS (Nu ho hdt (by simp) ?_);have e1:=M3 (Obj.mapFields (·.setIfInBounds 0 (rawInt (sl (i+1):Nat)))) ho (Nj (NK hdt _));have d1:=NK hdt (·.setIfInBounds 0 (rawInt (sl (i+1):Nat)));refine MS (Nu e1 d1 (by simp) (MV ⟨_,rfl,MV ?_⟩));have e2:=M3 (Obj.mapFields (·.setIfInBounds 1 (rawInt ((i:Nat)+1)))) e1 (Nj (NK d1 _));refine hQ _ _ s.toks hx ⟨⟨_,e2,((PF ..).trans (PF ..)).trans hc,?_⟩,?_⟩ fun b ob hb e=> ?_
  .rw[NK d1]
   simp[rawInt]
  .rw[Mw _ _ (Nd hne),Mw _ _ (Nd hne)]
   exact ha
  .have nb:I≠b:=fun z=>hb (by simp[z])
   rw[Mw _ _ nb,Mw _ _ nb];exact e
 done:=fun s Q E st hQ=>by
  obtain⟨it,ha⟩:=st;obtain⟨o,ho,hc,hdt⟩:=id it;have hf:(gS (!w.params.followText "set-order") m).fits es.size=true:=by rw[show es.size=(lst m).length from he.len];exact fits hm _
  unfold pyNext;refine MS (Ob (Nb (name:=Str.ofString "__next__") it.typeIs cg (NE cg it.typeIs l7 ?_ (oW _))));unfold Builtin.«set_iterator.__next__»;refine MS (m:=slotArgs _ _ _) (MV ?_);refine MS (wpAny_fieldsOf ho hdt ?_);dsimp only;refine MS (wpAny_setEntries_of ha hd hf ?_);rw[MY (by simp)];refine MS (O.go vs.length _ ha hd ?_ (by have:=O.len;omega));rw[Ng (Mc _)];dsimp only[Option.map];refine MS (Nu ho hdt (by simp) ?_);refine MS ?_;simp only[newExc,newTuple];refine MS (NC ?_ (by size_fits));refine MS (m:=firstArgMember _ _) (Nv (a:=Value.none) (by first|rfl|(simp only[firstArgMember];rfl)) ?_);refine NC ?_ (by size_fits);simp only[raiseNew];refine MS (wpAny_handled ?_);rw[show A.in1.handled=none from hh];refine MS (MV (wpAny_throw ?_));refine MS (Ou (T:="StopIteration") (b:=true) ⟨_,Mg _ rfl,rfl⟩ isSubtype_stop ?_);refine MV (hQ _ s.toks fun b ob hb e=> ?_);have nb:b≠I:=fun z=>hb (by simp[z]);exact(((OF ..).extBut.push _).push _) b ob nb e
 self:=fun i s Q E st hQ=>by
  refine PC st.1.typeIs nQ (NE nQ st.1.typeIs vV ?_ (zR _));exact MV ⟨_,rfl,"set_iterator",_,st.1.typeIs,cg.lookup,hQ⟩
end
section
variable{prog:Program}{w:World}{A:Around}{E:Value->Shared->Prop}{s:Shared}
theorem Ib{o:Obj}(p:m<256)(n:fh c.toList m)(d:s.heap.get? a=some o)(f:o.ExactSet)(i:o.data=.set c l (gS (!w.params.followText "set-order") m))
  (h:Q (.ref s.heap.objs.size) {s with heap:=s.heap.push {cls:=.type "set_iterator",data:=.fields #[.int (0:Nat) 0,.int (0:Nat) 0,.ref a,.int (c.size:Nat) 0,.int (l:Nat) 0]}}):wpAny (model prog w) A (pyIter (.ref a)) Q E s:=by
 have j:s.TypeIs (.ref a) "set":=⟨o,d,f.1⟩;have e:(gS (!w.params.followText "set-order") m).fits c.size=true:=by rw[show c.size=(lst m).length from n.len];exact fits p _
 refine PC j F.slot_set_iter (NE F.slot_set_iter j vW ?_ (F.args_set_iter_1 _));refine MS (MV ?_);refine MS (MS (wpAny_setEntries_of d i e (MV ?_)));have g:wpAny (model prog w) A.in1 (setDrawn a) (λb s1=>b=false/\s1=s) E s:=by unfold setDrawn;refine MS (Pf d i e ?_);refine MS (MS (PQ (MV (MV ⟨?_,rfl⟩))));cases(model prog w).w.params.followText "set-order";rfl;rfl
 refine MS (No g (λb s1 hb=> ?_) λ_ _ x=>x);obtain⟨rfl,rfl⟩:=hb;refine MS (MV (MS (wpAny_setEpoch_of d i e ?_)));refine MS (NC (MV ⟨_,rfl,"set_iterator",_,⟨_,Mg _ rfl,rfl⟩,cg.lookup,h⟩))
set_option tactic.hygienic true
set_option maxHeartbeats 3200000 in
theorem zK{a m:Nat}{Q:List Value->Shared->Prop}(hh:A.handled=none)(hm:m<256)(hS:SX w a m s.heap)
  (h:∀(s' :Shared)(vs:List Value),vs.map kG=vs.map kG->(vs.map kG).Perm ((lst m).map fun v:Nat=>some (v:Int))->(∀b o,s.heap.get? b=some o->s'.heap.get? b=some o)->s.heap.objs.size<s'.heap.objs.size->s'.gens=s.gens->s'.drawn=s.drawn->s'.os=s.os->Q vs s') :
  wpAny (model prog w) A (collect (.ref a)) Q E s:=by
 obtain⟨o,es,ep,ho,hex,hd,he⟩:=hS;obtain⟨vs,sl,O,hs0⟩:=K9 (w:=w) (a:=a) (ep:=ep) hm he;have ha:a<s.heap.objs.size:=Mi ho;have hz:es.size=(lst m).length:=he.len;have h8:(lst m).length<=8:=by
  unfold lst;exact M8 (NM _ _) (by simp)
 have hvl:vs.length<=8:=by rw[O.len,hz];exact h8
 unfold collect;refine MS (wpAny_runValue (Nl F.entry_proto_collect ?_));rw[Nf F.plain_proto_collect _];show wpAny _ A.in1 (newList [] >>= fun l=>again (.builtin "list.__iadd__" ⟨[l,.ref a],[]⟩)) _ _ s;refine MS (NC (MV ⟨Oo F.plain_list_iadd _,Nl F.entry_list_iadd ?_⟩));rw[Nf F.plain_list_iadd _]
 generalize hL:({cls:=.type "list",data:=.seq ([]:List Value).toArray}:Obj)=L0
 have k1:(s.heap.push L0).get? a=some o:=MU _ ho;have k2:(s.heap.push L0).get? s.heap.objs.size=some L0:=Mg _ (by rw[<- hL];rfl);have hT:Shared.TypeIs {s with heap:=s.heap.push L0} (.ref a) "set":=⟨o,k1,hex.1⟩;show wpAny _ A.in1 (Builtin.List.listExtendWith (.ref s.heap.objs.size) (.ref a) (.ref s.heap.objs.size)) _ _ _;unfold Builtin.List.listExtendWith;refine MS (O0 hT ?_);have n1:Builtin.List.listSameRef (.ref s.heap.objs.size) (.ref a)=false:=by
  simp only[Builtin.List.listSameRef,OC];exact Ni ha
 rw[MY (by rw[n1];decide)];refine MS (Ib (s:={s with heap:=s.heap.push L0}) hm he k1 hex hd ?_);dsimp only;rw[show(s.heap.push L0).objs.size=s.heap.objs.size+1 from OP _ _]
 generalize hI:({cls:=.type "set_iterator",data:=.fields #[.int (0:Nat) 0,.int (0:Nat) 0,.ref a,.int (es.size:Nat) 0,.int (ep:Nat) 0]}:Obj)=I0
 have sz:(s.heap.push L0).objs.size=s.heap.objs.size+1:=OP _ _;have j0:((s.heap.push L0).push I0).get? (s.heap.objs.size+1)=some I0:=by rw[<- sz];exact Mg _ (by rw[<- hI];rfl)
 have j1:((s.heap.push L0).push I0).get? a=some o:=MU _ k1;have j2:((s.heap.push L0).push I0).get? s.heap.objs.size=some L0:=MU _ k2;have hT2:Shared.TypeIs {s with heap:=(s.heap.push L0).push I0} (.ref a) "set":=⟨o,j1,hex.1⟩;have hhint:wpAny (model prog w) A.in1 (Builtin.List.listLengthHint (.ref a)) (fun b s1=>s1={s with heap:=(s.heap.push L0).push I0}) E {s with heap:=(s.heap.push L0).push I0}:=by
  unfold Builtin.List.listLengthHint;refine MS (OT hT2 F.slot_set_len.lookup ?_)
  (generalize aV:("set.__len__":String)=id0;(fail_if_success (clear aV id0));wp_delta;rw[show splitId id0=some ("set","__len__")from by subst aV;decide +kernel];subst aV)
  refine MS (Ou (b:=true) hT2 (by rw[PL];kernel_rfl) ?_);rw[MY (show¬((!true)=true)from MZ)];dsimp only;rw[Ma (by decide)];refine MS (O0 hT2 ?_);exact MV rfl
 refine MS (NV (No hhint (fun b s1 hb=> ?_) fun _ _ x=>x));subst hb
 split
 case isFalse z =>
  refine absurd ?_ z;rw[N0];exact .inr (by decide)
 refine MS (Pm ?_);have hW:=GU (prog:=prog) (w:=w) (A:=A.in1) hh (I:=s.heap.objs.size+1) (a:=a) (so:=o) (by omega) hm he hd O;have u1:=M3 (Obj.mapSeq (·.push Value.none)) j2 (by rw[<- hL];rfl);refine MS ?_;show wpAny _ A.in1 (updateSeq s.heap.objs.size (·.push .none) >>= fun _=>updateSeq s.heap.objs.size (·.pop)) _ _ _;subst hL;refine MS (Pu j2 rfl ?_);refine Pu u1 rfl ?_;have u2:=M3 (Obj.mapSeq (·.pop)) u1 rfl
 have oth:∀b ob,b≠s.heap.objs.size->((s.heap.push {cls:=.type "list",data:=.seq ([]:List Value).toArray}).push I0).get? b=some ob ->
   ((((s.heap.push {cls:=.type "list",data:=.seq ([]:List Value).toArray}).push I0).update s.heap.objs.size (Obj.mapSeq (·.push Value.none))).update s.heap.objs.size (Obj.mapSeq (·.pop))).get? b=some ob:=fun b ob nb e=>by
  rw[Mw _ _ (Nd nb),Mw _ _ (Nd nb)];exact e
 have nf:s.heap.objs.size∉[s.heap.objs.size+1,a]:=by
  simp only[Ml,NJ,OV,Pd];exact⟨by omega,Ni ha⟩
 refine MV ⟨Oo F.plain_extend_loop _,codeAny_extend_loopS hW.toS (by rw[NR];omega) _ nf _ vs.length 0 _ _ _ rfl (M6 _) ⟨⟨I0,oth _ _ (by omega) j0,by rw[<- hI],by rw[<- hI,hs0]⟩,oth _ _ (Ms ha) j1⟩ u2 (ItemsOf.nil _) fun s' acc c mv hacc his=> ?_⟩;show wpAny _ A (load s.heap.objs.size >>= _) _ _ s';refine MS (wpAny_load hacc ?_);have eacc:acc.toList=vs:=by
  apply Oz
  intro i;rw[Nh];cases e:acc[i]? with
  | some v=>exact(his.2 i v e).symm
  | none =>
   have:acc.size<=i:=by simpa using e
   rw[his.1]at this;exact(Ng this).symm
 show wpAny _ _ (pure acc.toList) _ _ _;rw[eacc];refine MV (h s' vs rfl ?_ (fun b ob e=> ?_) (Mi hacc) mv.gens mv.drawn mv.os)
 .have:=O.perm.map kG
  refine this.trans (List.Perm.of_eq ?_);rw[M4];have z:=NG (List.map Prod.snd) he;rw[M4,M4]at z;exact z
 .have hb:=Mi e
  refine mv.heap b ob ?_ (oth b ob (Ms hb) (MU _ (MU _ e)));simp only[Ml,NJ,OV,Pd];exact⟨Ms hb,Ms (Np hb)⟩
end
end SQ
namespace SQ
open PySem PyProof.Rows
set_option tactic.hygienic false
theorem xK:∀{a:List Value}{b:List Int},a.map kG=b.map some->IntsAre a b
 |[],[],_=>.nil|[],_::_,h=>by cases h|_::_,[],h=>by cases h|v::a,n::b,h=>by
  rw[Mm,Mm]at h
  injection h with h1 h2
  obtain⟨t,rfl⟩:=nh h1;exact .cons n t (xK h2)
theorem lT(m:Nat):(lst m).Pairwise (·<·):=by exact List.Pairwise.filter _ (List.pairwise_lt_range)
section
variable{prog:Program}{w:World}{A:Around}{E:Value->Shared->Prop}{s:Shared}
theorem AV(hh:A.handled=none)(hm:m<256)(hS:SX w a m s.heap)
  (h:∀(s' :Shared)(D c:Nat)(out:Array Value),IntsAre out.toList ((lst m).map λv:Nat=>(v:Int))->s.heap.objs.size<=D->s'.heap.get? D=some (seqObj "list" out c)->(∀b o,s.heap.get? b=some o->s'.heap.get? b=some o)->s'.gens=s.gens->s'.drawn=s.drawn->s'.os=s.os->Q (.ref D) s') :
  wpAny (model prog w) A (call (.builtin "sorted") [.ref a]) Q E s:=by
 have h8:(lst m).length<=8:=by unfold lst;exact M8 (NM _ _) (by simp)
 refine P4 kind_sorted plain_sorted entry_sorted (args_sorted1 _) ?_;refine MS (MV ?_);refine MS (zK hh hm hS λs1 vs _ pm old lt g d os=> ?_);obtain⟨ns,en,pn⟩:∃ns:List Int,vs.map kG=ns.map some/\ns.Perm ((lst m).map λv:Nat=>v):=by
  have:∀ys xs,ys.Perm (xs.map some)->∃ns:List Int,ys=ns.map some/\ns.Perm xs:=by
   intro ys xs p;refine⟨ys.filterMap id,?_,?_⟩
   .have hall:∀y∈ys,y.isSome=true:=λy hy=>by
     obtain⟨x,-,rfl⟩:=Md.mp (p.mem_iff.mp hy);rfl
    clear p
    induction ys with
    |nil=>rfl|cons y r ih =>
     cases y with
     |none=>exact absurd (hall none MX) (by simp)|some v =>rw[List.filterMap_cons_some (by rfl),Mm,<-ih λz hz=>hall z (MW _ hz)]
   .have:=p.filterMap id
    simpa using this
  refine this _ _ (pm.trans (List.Perm.of_eq ?_));rw[M4];rfl
 have hl:vs.length<64:=by have e1:=NG List.length en;rw[MT,MT]at e1;have e2:=pn.length_eq;rw[MT]at e2;omega
 refine MS (Po ?_);have ho:(s1.heap.push (seqObj "list" vs.toArray 0)).get? s1.heap.objs.size=some (seqObj "list" vs.toArray 0):=Mg _ rfl;refine MS (NV (NE slot_list_sort ⟨_,ho,rfl⟩ entry_list_sort (list_sort_tree ho (xK en) hl λout ns' a1 a2 a3=>⟨_,rfl,?_⟩) (args_list_sort _)));have e:ns' =(lst m).map λv:Nat=>(v:Int):=by refine P0 (λa b _ _ h1 h2=>Int.le_antisymm h1 h2) a3 ?_ (a2.trans pn);rw[Oh];exact(lT m).imp λz=>by omega
 subst e;obtain⟨c,hc⟩:=sortedHeap_at ho;refine MV ⟨_,rfl,h _ _ c out a1 (Os lt) hc (λb o z=> ?_) g d os⟩;have hb:=Mi (old b o z);rw[sortedHeap_old (Ms hb) (by rw[OP];exact Np hb)];exact MU _ (old b o z)
end
end SQ
namespace L2
open PySem PySem.Spec PyProof.Rows
def maskOf(a:List Int):Nat:=SQ.oz (λi=>(a.getD i 0).toNat) a.length 0 0
def cA(a:List Int):List Int:=(SQ.lst (maskOf a)).map λv:Nat=>(v:Int)
set_option tactic.hygienic false
theorem wU(f:Nat->Nat):∀(k i m:Nat),(∀j,j<k->f (i+j)<8)->m<256->SQ.oz f k i m<256
 |0,_,m,_,h=>h|k+1,i,m,hf,h=>by unfold SQ.oz;refine wU f k (i+1) _ (λj hj=> ?_) (SQ.Eb h (hf 0 (by omega)) true).2;have:=hf (j+1) (by omega);rwa[show i+1+j=i+(j+1)by omega]
theorem xD(h:∀n∈a,0<=n/\n<8):maskOf a<256:=by
 refine wU _ _ _ _ (λj hj=> ?_) (by omega);have:a.getD j 0∈a:=by rw[Mf,Mk hj];exact OI hj
 have:=h _ this;omega
section
variable{X:Cx}
theorem oM(hc:X.calm=true):bA X (.type "set") (λxs H Q=>∃(p:Addr)(ns:List Int),xs=[.ref p]/\bH X.K H p (ns.map V.int)/\(∀n∈ns,0<=n/\n<8)/\∀a,H a=none->Q (.ref a) (upd H a (.ext (SQ.SX X.w a (maskOf ns))))):=by
 intro pins s σ H xs us Q I r h;obtain⟨p,ns,rfl,hq,h8,q⟩:=h;obtain⟨u,rfl,rx⟩:=vals1 r;cases rx;obtain⟨its,r',pl,hz⟩:=I.list hq;have hlen:=r'.length;rw[MT]at hlen;refine SQ.Kl (f:=λi=>(ns.getD i 0).toNat) (I.ok.hd hc) pl.isList (λi v hv=> ?_) λh' tk hS old=> ?_
 .have hv:its[i]? =some v:=by simpa using hv
  obtain⟨t,e⟩:=jv r' hv;have hi:i<ns.length:=by have:=(Mh.mp hv).1;omega
  have hm:ns.getD i 0∈ns:=by rw[Mf,Mk hi];exact OI hi
  have:=h8 _ hm;refine⟨by omega,t,?_⟩;rw[e]
  congr 1
  omega
 .have ez:its.toArray.size=ns.length:=by rw[Me,hlen]
  rw[ez]at hS;refine⟨.ref s.heap.objs.size,_,I.laid (o:=.ext (SQ.SX X.w s.heap.objs.size (maskOf ns))) (λb o z=>old b o (Mi z) z) (Mc _) ⟨hS,?_,λh1 h2 x k=>x.at k⟩,rfl,q _ (I.hok.fresh (Mc _))⟩;obtain⟨o,es,ep,ho,_⟩:=hS;exact⟨o,ho⟩
theorem Inv.ext(I:Inv X b d H s)(h:H a=some (.ext c)):c s.heap:=(show ah X.prog X.w H s.heap a (.ext c)from I.hok a _ h).1
theorem jh(hc:X.calm=true):bA X (.builtin "sorted") (λxs H Q=>∃(p:Addr)(m:Nat),xs=[.ref p]/\m<256/\H p=some (.ext (SQ.SX X.w p m))/\∀a,H a=none->Q (.ref a) (upd H a (.lst ((SQ.lst m).map λv:Nat=>V.int (v:Int))))):=by
 intro pins s σ H xs us Q I r h;obtain⟨p,m,rfl,hm,hp,q⟩:=h;obtain⟨u,rfl,rx⟩:=vals1 r;cases rx;refine SQ.AV (I.ok.hd hc) hm (I.ext hp) λs' D c out a1 le hD old g d os=> ?_;obtain⟨h',g',d',tk',os'⟩:=s';subst g d os;refine⟨.ref D,_,I.laid (λb o z=>old b o z) le ?_,rfl,q _ (I.hok.fresh le)⟩;have h8:(SQ.lst m).length<=8:=by unfold SQ.lst;exact M8 (NM _ _) (by simp)
 refine⟨by rw[MT,NR];omega,out.toList,c,?_,by simpa [seqObj]using hD⟩;have:=cV a1;rwa[M4]at this
theorem nD:bA X (.builtin "len") (λxs H Q=>∃(p:Addr)(m:Nat),xs=[.ref p]/\m<256/\H p=some (.ext (SQ.SX X.w p m))/\Q (.int ((SQ.lst m).length:Nat)) H):=by
 intro pins s σ H xs us Q I r h;obtain⟨p,m,rfl,hm,hp,q⟩:=h;obtain⟨u,rfl,rx⟩:=vals1 r;cases rx;obtain⟨o,es,ep,ho,hex,hd,he⟩:=I.ext hp;have hz:es.size=(SQ.lst m).length:=he.len;have h8:(SQ.lst m).length<=8:=by unfold SQ.lst;exact M8 (NM _ _) (by simp)
 refine PySem.call_len_set ho hex hd (by rw[hz];exact SQ.fits hm _) (by omega) ?_;refine⟨.int ((SQ.lst m).length:Nat),H,I.kept (λb o e=>e),?_,q⟩;rw[hz];exact⟨_,rfl⟩
end
end L2
namespace SW
open PySem.W PyProof.Rows
def run{b:Type}(f:Nat->Nat->Bool):KasT b->b
 | .ret a=>a| .ask i j k=>run f (k (f i j))
theorem eP{a b:Type}(f:Nat->Nat->Bool)(g:a->KasT b):∀t:KasT a,run f (t.bind g)=run f (g (run f t))
 | .ret _=>rfl| .ask i j k=>eP f g (k (f i j))
section
variable(key:Nat->Int)
def F:Nat->Nat->Bool:=λi j=>decide (key i<key j)
def K(p:Array Nat)(i:Nat):Int:=key (p.getD i 0)
def zi(p:Array Nat)(k:Nat):Prop:=∀i,i+1<k->K key p i<=K key p (i+1)
def Fs(p:Array Nat)(k:Nat):Prop:=∀i,i+1<k->K key p (i+1)<=K key p i
variable{key}
set_option tactic.hygienic false
theorem zi.le{p:Array Nat}{k:Nat}(h:zi key p k):∀(d i:Nat),i+d<k->K key p i<=K key p (i+d)
 |0,_,_=>Int.le_refl _|d+1,i,hk=>Int.le_trans (zi.le h d i (by omega)) (h (i+d) (by omega))
theorem zi.mono{k:Nat}(h:zi key p k)(a:i<=j)(b:j<k):K key p i<=K key p j:=by
 have:=h.le (j-i) i (by omega)
 rwa [show i+(j-i)=j by omega]at this
theorem Fs.le{p:Array Nat}{k:Nat}(h:Fs key p k):∀(d i:Nat),i+d<k->K key p (i+d)<=K key p i
 |0,_,_=>Int.le_refl _|d+1,i,hk=>Int.le_trans (h (i+d) (by omega)) (Fs.le h d i (by omega))
theorem Fs.mono{k:Nat}(h:Fs key p k)(a:i<=j)(b:j<k):K key p j<=K key p i:=by
 have:=h.le (j-i) i (by omega)
 rwa [show i+(j-i)=j by omega]at this
theorem C7(a:j<=p.size)(x:Nat):K key (kas_rev p i j) x=if i<=x/\x<j then K key p (i+j-1-x)else K key p x:=by
 unfold K kas_rev;rw[Nr,getElem?_mirror_all a]
 split;rw[Nr];rw[Nr]
theorem asc(p:Array Nat):∀k n,n<=run (F key) (kas_asc p k n)/\run (F key) (kas_asc p k n)<=n+k/\(∀i,n<=i->i<run (F key) (kas_asc p k n)->K key p (i-1)<=K key p i) /\ (run (F key) (kas_asc p k n)<n+k->K key p (run (F key) (kas_asc p k n))<K key p (run (F key) (kas_asc p k n)-1))
 |0,n=>⟨Mc _,Mc _,λi h1 h2=>absurd (show i<n from h2) (by omega),λh=>absurd (show n<n+0 from h) (by omega)⟩|k+1,n=>by
  have e:run (F key) (kas_asc p (k+1) n)=if K key p n<K key p (n-1)then n else run (F key) (kas_asc p k (n+1)):=by
   show run (F key) (if F key (p.getD n 0) (p.getD (n-1) 0)=true then .ret n else kas_asc p k (n+1))=_;unfold F K
   by_cases c:key (p.getD n 0)<key (p.getD (n-1) 0)
   .rw[Ma (by simpa using c),Ma c]
    rfl
   .rw[MY (by simpa using c),MY c]
  rw[e]
  by_cases c:K key p n<K key p (n-1)
  .rw[Ma c]
   exact⟨Mc _,by omega,λi h1 h2=>by omega,λ_=>c⟩
  .rw[MY c]
   obtain⟨d,f,b,a⟩:=asc p k (n+1);refine⟨by omega,by omega,λi h1 h2=> ?_,λh=>a (by omega)⟩
   rcases Oq n i with h|h
   .exact b i h h2
   .have:i=n:=by omega
    omega
structure Dn(p:Array Nat)(n q:Nat):Prop where
 one:q+1<=n
 sz:n<=p.size
 fal:Fs key p n
 eqs:∀i,n-(q+1)<=i->i<n->K key p i=K key p (n-1)
theorem gy(p:Array Nat)(i j:Nat):(kas_rev p i j).size=p.size:=mirror_size _ _ _ _
set_option tactic.hygienic true in
theorem mW{i j:Nat}(a:j<=p.size)(h:∀x,i<=x->x<j->K key p x=K key p (j-1))(x:Nat):K key (kas_rev p i j) x=K key p x:=by
 rw[C7 a]
 split
 .rename_i c
  rw[h (i+j-1-x) (by omega) (by omega),h x c.1 c.2]
 .rfl
theorem E7:∀(k:Nat)(p:Array Nat)(n q:Nat),Dn (key:=key) p n q->n+k<=p.size -> Dn (key:=key) (run (F key) (kas_desc k p n q)).1 (run (F key) (kas_desc k p n q)).2.1 (run (F key) (kas_desc k p n q)).2.2/\(run (F key) (kas_desc k p n q)).1.Perm p/\(run (F key) (kas_desc k p n q)).2.1<=n+k
 |0,p,n,q,h,_=>⟨h,Pk _,Mc _⟩|k+1,p,n,q,h,hk=>by
  have h1:=h.one;have e:run (F key) (kas_desc (k+1) p n q)=if K key p n<K key p (n-1)then(if q>0 then run (F key) (kas_desc k (kas_rev p (n-(q+1)) n) (n+1) 0)else run (F key) (kas_desc k p (n+1) 0))else if K key p (n-1)<K key p n then(p,n,q)else run (F key) (kas_desc k p (n+1) (q+1)):=by
   show run (F key) (if F key (p.getD n 0) (p.getD (n-1) 0)=true then(if q>0 then kas_desc k (kas_rev p (n-(q+1)) n) (n+1) 0 else kas_desc k p (n+1) 0)else .ask (p.getD (n-1) 0) (p.getD n 0) λd=>if d=true then .ret (p,n,q)else kas_desc k p (n+1) (q+1))=_
   by_cases c:K key p n<K key p (n-1)
   .rw[Ma (show F key (p.getD n 0) (p.getD (n-1) 0)=true by simpa [F,K]using c),Ma c]
    split<;>rfl
   .rw[MY (show¬F key (p.getD n 0) (p.getD (n-1) 0)=true by simpa [F,K]using c),MY c]
    show run (F key) (if F key (p.getD (n-1) 0) (p.getD n 0)=true then .ret (p,n,q)else kas_desc k p (n+1) (q+1))=_
    by_cases d:K key p (n-1)<K key p n
    .rw[Ma (show F key (p.getD (n-1) 0) (p.getD n 0)=true by simpa [F,K]using d),Ma d]
     rfl
    .rw[MY (show¬F key (p.getD (n-1) 0) (p.getD n 0)=true by simpa [F,K]using d),MY d]
  have longer:∀p' ,p'.size=p.size->(∀x,K key p' x=K key p x)->K key p n<=K key p (n-1)->Fs key p' (n+1):=λp' z kk c i hi=>by
   rw[kk,kk]
   rcases Oq (i+1) n with y|y
   .exact h.fal i y
   .have:i=n-1:=by omega
    subst this;rwa[show n-1+1=n by omega]
  have new:∀p' ,p'.size=p.size->(∀x,K key p' x=K key p x)->K key p n<=K key p (n-1)->Dn p' (n+1) 0:=λp' z kk c =>
   ⟨by omega,by omega,longer p' z kk c,λi i1 i2=>by
    have:i=n+1-1:=by omega
    rw[this]⟩
  rw[e]
  by_cases c:K key p n<K key p (n-1)
  .rw[Ma c]
   by_cases hq:q>0
   .rw[Ma hq]
    obtain⟨a1,a2,a3⟩:=E7 k (kas_rev p (n-(q+1)) n) (n+1) 0 (new _ (gy _ _ _) (mW h.sz h.eqs) (by omega)) (by rw[gy];omega);exact⟨a1,a2.trans (PZ _ _ _ _),by omega⟩
   .rw[MY hq]
    obtain⟨a1,a2,a3⟩:=E7 k p (n+1) 0 (new p rfl (λ_=>rfl) (by omega)) (by omega);exact⟨a1,a2,by omega⟩
  .rw[MY c]
   by_cases d:K key p (n-1)<K key p n
   .rw[Ma d]
    exact⟨h,Pk _,by dsimp only;omega⟩
   .rw[MY d]
    obtain⟨a1,a2,a3⟩:=E7 k p (n+1) (q+1) ⟨by omega,by omega,longer p rfl (λ_=>rfl) (by omega),λi i1 i2=>by
     have z:K key p n=K key p (n-1):=by omega
     rw[show n+1-1=n by omega,z]
     rcases Oq i n with y|y
     .exact h.eqs i (by omega) y
     .have:i=n:=by omega
      rw[this,z]⟩ (by omega)
    exact⟨a1,a2,by omega⟩
def Good(p:Array Nat)(a:Nat)(r:Nat×Array Nat):Prop:=1<=r.1/\r.1<=a/\zi key r.2 r.1/\r.2.Perm p
theorem tail3{p:Array Nat}{n nrem:Nat}(g:1<=n)(e:n<=nrem)(d:nrem<=p.size)(b:Fs key p n):Good (key:=key) p nrem (run (F key) (kas_tail3 n nrem p)):=by
 unfold kas_tail3;rw[eP];obtain⟨f,h,c,-⟩:=asc (key:=key) (kas_rev p 0 n) (nrem-n) n;refine⟨by show 1<=run (F key) (kas_asc (kas_rev p 0 n) (nrem-n) n);omega,by show run (F key) (kas_asc (kas_rev p 0 n) (nrem-n) n)<=nrem;omega,λi a=> ?_,PZ _ _ _ _⟩;show K key (kas_rev p 0 n) i<=K key (kas_rev p 0 n) (i+1);have a:=a
 rcases Oq (i+1) n with y|y
 .rw[C7 (by omega),C7 (by omega),Ma (by omega),Ma (by omega)]
  exact b.mono (by omega) (by omega)
 .have:=c (i+1) y a
  rwa [show i+1-1=i by omega]at this
theorem descPart{p:Array Nat}{n nrem:Nat}(u:1<=n)(v:n+1<=nrem)(w:nrem<=p.size)(o:Fs key p (n+1)):Good (key:=key) p nrem (run (F key) (kas_descPart n nrem p)):=by
 unfold kas_descPart;rw[eP];obtain⟨d,a,m⟩:=E7 (nrem-(n+1)) p (n+1) 0 ⟨by omega,by omega,o,λi i1 i2=>by
  have:i=n+1-1:=by omega
  rw[this]⟩ (by omega)
 generalize run (F key) (kas_desc (nrem-(n+1)) p (n+1) 0)=r at d a m
 obtain⟨f,b,j⟩:=r;have q :=d.one;have s :=a.size_eq
 split
 .have l:=mW d.sz d.eqs
  obtain⟨e,c,g,h⟩:=tail3 (p:=kas_rev f (b -(j +1)) b) (n:=b) (nrem:=nrem) (by omega) (by omega) (by rw[gy];omega) (λi hi=>by rw[l,l];exact d.fal i hi);exact⟨e,c,g,(h.trans (PZ _ _ _ _)).trans a⟩
 .obtain⟨e,c,g,h⟩:=tail3 (nrem:=nrem) (by omega) (by omega) (by omega) d.fal
  exact⟨e,c,g,h.trans a⟩
theorem count{p:Array Nat}(z:1<=a)(v:a<=p.size):Good (key:=key) p a (run (F key) (kas_count a p)):=by
 unfold kas_count;rw[eP];obtain⟨f,r,o,l⟩:=asc p (a-1) 1
 generalize run (F key) (kas_asc p (a-1) 1)=n at f r o l
 have d:zi key p n:=λi hi=>by
  have:=o (i+1) (by omega) hi
  rwa [show i+1-1=i by omega]at this
 by_cases e:n=a
 .rw[Ma (by simpa using e)]
  exact⟨f,by show n<=a;omega,d,Pk _⟩
 .rw[MY (by simpa using e)]
  have g:=l (by omega)
  by_cases h:n>1
  .rw[Ma h]
   show Good p a (run (F key) (if F key (p.getD 0 0) (p.getD (n-1) 0)=true then .ret (n,p)else kas_descPart n a (kas_rev p 0 n)))
   by_cases c:K key p 0<K key p (n-1)
   .rw[Ma (show F key (p.getD 0 0) (p.getD (n-1) 0)=true by simpa [F,K]using c)]
    exact⟨f,by show n<=a;omega,d,Pk _⟩
   .rw[MY (show¬F key (p.getD 0 0) (p.getD (n-1) 0)=true by simpa [F,K]using c)]
    have b:∀x,0<=x->x<n->K key p x=K key p (n-1):=λx _ hx=>by have C:=d.mono (show 0<=x by omega) hx;have A:=d.mono (show x<=n-1 by omega) (by omega);omega
    have m:=mW (by omega) b;obtain⟨s,q,u,w⟩:=descPart (p:=kas_rev p 0 n) (nrem:=a) f (by omega) (by rw[gy];omega) (λi hi=>by
     rw[m,m]
     rcases Oq (i+1) n with y|y
     .rw[b (i+1) (by omega) y,b i (by omega) (by omega)]
      exact Int.le_refl _
     .have:i=n-1:=by omega
      subst this;rw[show n-1+1=n by omega];omega)
    exact⟨s,q,u,w.trans (PZ _ _ _ _)⟩
  .rw[MY h]
   have:n=1:=by omega
   subst this;exact descPart (by omega) (by omega) v (λi hi=>by
    have:i=0:=by omega
    subst this;exact Int.le_of_lt g)
theorem HL{p:Array Nat}{n:Nat}(a:zi key p n):∀(k l r:Nat),l<=r->r<=n->r-l<=k->(∀i,i<l->K key p i<=K key p n)->(∀i,r<=i->i<n->K key p n<K key p i) -> run (F key) (kas_place p n k l r)<=n/\(∀i,i<run (F key) (kas_place p n k l r)->K key p i<=K key p n)/\∀i,run (F key) (kas_place p n k l r)<=i->i<n->K key p n<K key p i
 |0,l,r,lr,rn,hk,h1,h2=>by
  have:l=r:=by omega
  subst this;exact⟨rn,h1,h2⟩
 |k+1,l,r,lr,rn,hk,h1,h2=>by
  unfold kas_place
  by_cases e:l ≥ r
  .have:l=r:=by omega
   subst this;rw[Ma e];exact⟨rn,h1,h2⟩
  .rw[MY e]
   have b:l<=(l+r)/2:=by omega
   show(λt=>run (F key) t<=n/\(∀i,i<run (F key) t->K key p i<=K key p n)/\∀i,run (F key) t<=i->i<n->K key p n<K key p i) (if F key (p.getD n 0) (p.getD ((l+r)/2) 0)=true then kas_place p n k l ((l+r)/2)else kas_place p n k ((l+r)/2+1) r)
   by_cases c:K key p n<K key p ((l+r)/2)
   .rw[Ma (show F key (p.getD n 0) (p.getD ((l+r)/2) 0)=true by simpa [F,K]using c)]
    refine HL a k l ((l+r)/2) b (by omega) (by omega) h1 λi i1 i2=> ?_;exact Int.lt_of_lt_of_le c (a.mono i1 i2)
   .rw[MY (show¬F key (p.getD n 0) (p.getD ((l+r)/2) 0)=true by simpa [F,K]using c)]
    refine HL a k ((l+r)/2+1) r (by omega) rn (by omega) (λi hi=> ?_) h2;exact Int.le_trans (a.mono (show i<=(l+r)/2 by omega) (by omega)) (by omega)
theorem MH{p:Array Nat}{n L:Nat}(a:n<p.size)(b:L<=n)(x:Nat):K key (bubble p n (n-L)) x=if x=L then K key p n else if L<x/\x<=n then K key p (x-1)else K key p x:=by
 unfold K;rw[Nr,getElem?_bubble a _ (by omega),show n-(n-L)=L by omega,Nr,Nr,Nr]
 split;rfl
 .split
  .rfl
  .rfl
theorem bin:∀(k:Nat)(p:Array Nat)(n:Nat),n+k<=p.size->zi key p n->zi key (run (F key) (kas_bin k p n)) (n+k)/\(run (F key) (kas_bin k p n)).Perm p
 |0,p,n,_,h=>⟨h,Pk _⟩|k+1,p,n,hk,h=>by
  unfold kas_bin;rw[eP];obtain⟨a,d,c⟩:=HL h n 0 n (by omega) (by omega) (by omega) (λi hi=>by omega) (λi i1 i2=>by omega)
  generalize run (F key) (kas_place p n n 0 n)=L at a d c
  have g:=MH (key:=key) (p:=p) (by omega) a;have j:zi key (bubble p n (n-L)) (n+1):=λi hi=>by
   rw[g,g]
   by_cases e:i=L
   .rw[Ma e,MY (by omega),Ma (by omega)]
    have:=c (i+1-1) (by omega) (by omega);omega
   .rw[MY e]
    by_cases f:i+1=L
    .rw[Ma f,MY (by omega)]
     exact d i (by omega)
    .rw[MY f]
     by_cases b:L<i/\i<=n
     .rw[Ma b,Ma (by omega)]
      exact h.mono (by omega) (by omega)
     .rw[MY b,MY (by omega)]
      exact h.mono (by omega) (by omega)
  obtain⟨m,l⟩:=bin k (bubble p n (n-L)) (n+1) (by rw[bubble_size];omega) j;exact⟨by rwa[show n+(k+1)=n+1+k by omega],l.trans (bubble_perm _ _ _)⟩
theorem sort{n:Nat}(h:1<=n):(run (F key) (kas_sort n)).toList.Perm (List.range n)/\((run (F key) (kas_sort n)).toList.map key).Pairwise (·<=·):=by
 have a:(run (F key) (kas_sort n)).Perm (List.toArray (List.range n))/\zi key (run (F key) (kas_sort n)) n:=by
  unfold kas_sort;rw[eP];obtain⟨u,o,e,b⟩:=count (p:=List.toArray (List.range n)) h (by simp)
  generalize run (F key) (kas_count n (List.toArray (List.range n)))=r at u o e b
  have w:r.2.size=n:=by rw[b.size_eq];simp
  split
  .have:max r.1 1=r.1:=by omega
   rw[this];obtain⟨q,m⟩:=bin (n-r.1) r.2 r.1 (by omega) e;exact⟨m.trans b,by rw[show n=r.1+(n-r.1)by omega];rwa[show r.1+(n-r.1)-r.1=n-r.1 by omega]⟩
  .have:r.1=n:=by omega
   exact⟨b,by rwa[<- this]⟩
 obtain⟨l,g⟩:=a;have c:=Array.perm_iff_toList_perm.mp l;refine⟨by simpa using c,?_⟩
 generalize run (F key) (kas_sort n)=p at l g c
 have v:p.toList.length=n:=by rw[c.length_eq];simp
 rw[List.pairwise_iff_getElem];intro i j f d s;rw[MT]at f d;have:=g.mono (show i<=j by omega) (by omega);unfold K at this;rw[M0]at f d
 simpa [Array.getD,f,d]using this
end
end SW
namespace SW
open PySem PySem.W PyProof.Rows
def Ok{c:Type}(n:Nat)(P:c->Prop):KasT c->Prop
 | .ret a=>P a| .ask i j k=>i<n/\j<n/\∀b,Ok n P (k b)
theorem Ok.bind{c d:Type}{n:Nat}{P:c->Prop}{R:d->Prop}{g:c->KasT d}(e:∀a,P a->Ok n R (g a)):∀{t:KasT c},Ok n P t->Ok n R (t.bind g)
 | .ret a,h=>e a h| .ask i j k,h=>⟨h.1,h.2.1,λb=>Ok.bind e (h.2.2 b)⟩
theorem Ok.wp{c:Type}{n:Nat}{P:c->Prop}{b:Nat->Nat->(Bool->Shared->Prop)->Shared->Prop}{f:Nat->Nat->Bool}{Q:c->Shared->Prop}{s:Shared}(d:∀i j C,i<n->j<n->C (f i j) s->b i j C s) :
  ∀{t:KasT c},Ok n P t->Q (run f t) s->t.kasWp b Q s
 | .ret a,_,h=>h| .ask i j k,o,h=>d i j _ o.1 o.2.1 (Ok.wp d (o.2.2 _) h)
def B(n:Nat)(p:Array Nat):Prop:=∀x,p.getD x 0<n
set_option tactic.hygienic false
theorem B.perm(f:0<n)(h:B n p)(g:a.Perm p):B n a :=λx=>by
 by_cases b:x<a.size
 .have e:a.getD x 0=a[x]:=by simp[Array.getD,b]
  have c:=Array.getElem_mem_toList b;obtain⟨i,d,z⟩:=List.getElem_of_mem ((Array.perm_iff_toList_perm.mp g).mem_iff.mp c);have:=h i;rw[M0]at d;rw[e,<-z]
  simpa [Array.getD,d]using this
 .have e:a.getD x 0=0:=by simp[Array.getD,b]
  rwa[e]
section
variable{n:Nat}(hn:0<n)
include hn
theorem vC{p:Array Nat}(h:B n p):∀k m,Ok n (λ_=>True) (kas_asc p k m)
 |0,_=>trivial|k+1,m=>⟨h _,h _,λb=>by cases b<;>first|exact trivial|exact vC h k (m+1)⟩
theorem kP:∀(k:Nat)(p:Array Nat)(m q:Nat),B n p->Ok n (λr=>B n r.1) (kas_desc k p m q)
 |0,p,_,_,h=>h|k+1,p,m,q,h=>⟨h _,h _,λb=>by
  cases b with
  |true =>
   show Ok n _ (if q>0 then kas_desc k (kas_rev p (m-(q+1)) m) (m+1) 0 else kas_desc k p (m+1) 0)
   split;exact kP k _ _ _ (h.perm hn (PZ _ _ _ _));exact kP k _ _ _ h
  |false=>exact⟨h _,h _,λb=>by
    cases b
    .exact kP k p (m+1) (q+1) h
    .exact h⟩⟩
theorem sF(h:B n p):Ok n (λr=>B n r.2) (kas_tail3 m r p):=by refine Ok.bind (λ_ _=> ?_) (vC hn (h.perm hn (PZ _ _ _ _)) _ _);exact h.perm hn (PZ _ _ _ _)
theorem j3(h:B n p):Ok n (λr=>B n r.2) (kas_descPart m r p):=by
 refine Ok.bind (λa ha=> ?_) (kP hn _ _ _ _ h)
 split;exact sF hn (ha.perm hn (PZ _ _ _ _));exact sF hn ha
theorem BG(h:B n p):Ok n (λr=>B n r.2) (kas_count r p):=by
 refine Ok.bind (λa _=> ?_) (vC hn h _ _)
 split;exact h
 .split
  .exact⟨h _,h _,λb=>by
    cases b
    .exact j3 hn (h.perm hn (PZ _ _ _ _))
    .exact h⟩
  .exact j3 hn h
theorem lG{p:Array Nat}{m:Nat}(h:B n p):∀k l r,Ok n (λ_=>True) (kas_place p m k l r)
 |0,_,_=>trivial|k+1,l,r=>by
  unfold kas_place
  split;exact trivial
  .exact⟨h _,h _,λb=>by
    cases b
    .exact lG h k _ _
    .exact lG h k _ _⟩
theorem BH:∀(k:Nat)(p:Array Nat)(m:Nat),B n p->Ok n (λp=>B n p) (kas_bin k p m)
 |0,_,_,h=>h|k+1,p,m,h=>Ok.bind (λl _=>BH k _ _ (h.perm hn (bubble_perm _ _ _))) (lG hn h _ _ _)
theorem EI:Ok n (λp=>B n p) (kas_sort n):=by
 have b:B n (List.toArray (List.range n)):=λx=>by
  by_cases a:x<n
  .have:(List.toArray (List.range n)).getD x 0=x:=by simp[Array.getD,a]
   omega
  .have:(List.toArray (List.range n)).getD x 0=0:=by simp[Array.getD,a]
   omega
 refine Ok.bind (λr hr=> ?_) (BG hn b)
 split;exact BH hn _ _ _ hr;exact hr
end
section
variable{prog:Program}{w:World}{A:Around}{E:Value->Shared->Prop}{s:Shared}
def wn(a:Nat->Int)(b:List Value):List Value:=(run (F a) (kas_sort b.length)).toList.map λi=>b.getD i Value.none
theorem EB(h:1<=b.length):(wn a b).length=b.length:=by unfold wn;rw[MT,(sort h).1.length_eq,NT]
theorem ET{κ:SortKind}{key:Nat->Int}{P:PySem.Fin->Shared->Prop}(ho:s.heap.get? a=some (seqObj "list" vs.toArray n))(h2:2<=vs.length)(h64:vs.length<64)
  (hk:∀(s1:Shared)(Q:SortKind->Shared->Prop),(∀b o,b≠a->s.heap.get? b=some o->s1.heap.get? b=some o)->Q κ s1->wpAny (model prog w) A (keyKind' vs.toArray) Q E s1)
  (hc:∀(s1:Shared) i j C,(∀b o,b≠a->s.heap.get? b=some o->s1.heap.get? b=some o)->i<vs.length->j<vs.length->C (F key i j) s1->kas_ask prog w A κ vs i j C s1)
  (h:P (.done (.ret .none)) {s with heap:=sortedHeap s.heap a vs (wn key vs).toArray}) :
  wpAny (model prog w) A (Builtin.«list.sort» ⟨[.ref a],[]⟩) P E s:=by
 rw[list_sort_plain];refine MS (listItems_at ho rfl (MS (listUpdate_at ho rfl ?_ (by rw[Me,NR];omega) (M6 _))));obtain⟨e1,g1⟩:∃e1,(s.heap.update a (Obj.mapSeq λ_=>(#[]:Array Value))).get? a=some (seqObj "list" #[] e1):=⟨_,get?_update_seq ho λ_=> #[]⟩;refine MS (seqEpoch_at g1 rfl (MS (wpAny_newTuple ?_ (by show vs.length<=_;rw[NR];omega))));refine MS (Po ?_ (M6 _));refine NV ?_;have g2:(((s.heap.update a (Obj.mapSeq λ_=>(#[]:Array Value))).push (seqObj "tuple" vs.toArray 0)).push (seqObj "list" #[] 0)).get? a=some (seqObj "list" #[] e1):=MU _ (MU _ g1)
 have old:∀b o,b≠a->s.heap.get? b=some o->(((s.heap.update a (Obj.mapSeq λ_=>(#[]:Array Value))).push (seqObj "tuple" vs.toArray 0)).push (seqObj "list" #[] 0)).get? b=some o:=λb o nb e =>MU _ (MU _ (by rwa[Mw _ _ (Nd nb)]))
 have n2:¬vs.toArray.size<2:=by rw[Me];omega
 rw[MY n2,MY n2];refine MS (hk _ _ old ?_)
 refine MS (No (kat_run (Q:=λst' s' =>∃p:Array Nat,p=run (F key) (kas_sort vs.length)/\s' ={s with heap:=((s.heap.update a (Obj.mapSeq λ_=>(#[]:Array Value))).push (seqObj "tuple" vs.toArray 0)).push (seqObj "list" #[] 0)}/\arrOf st' =p.map (kas_item (vs.toArray.zip vs.toArray))/\failedOf st' =none) (G:=λp s' =>p=run (F key) (kas_sort vs.length)/\s' ={s with heap:=((s.heap.update a (Obj.mapSeq λ_=>(#[]:Array Value))).push (seqObj "tuple" vs.toArray 0)).push (seqObj "list" #[] 0)}) rfl h2 h64 (λp' st' s' _ a2 a3 a4=>⟨p',a4.1,a4.2,a2,a3⟩) ((EI (by omega)).wp (λi j C hi hj q=>hc _ i j C old hi hj q) ⟨rfl,rfl⟩)) ?_ λ_ _ e=>e)
 rintro⟨⟨⟩,st'⟩ s' ⟨p,rfl,rfl,har,hf⟩;dsimp only;have hout:(arrOf st').map (·.2)=(wn key vs).toArray:=kat_snds rfl har;rw[hout];refine MS (seqEpoch_at g2 rfl ?_);refine MS (listUpdate_at g2 rfl ?_ (M6 _) (by rw[Me,EB (by omega),NR];omega));rw[hf];simp only[bne_self_eq_false,OZ,Om];exact MV h
end
end SW
set_option maxHeartbeats 400000
namespace SW
open PySem PySem.W PyProof.Rows
def eA(h:Heap)(v:Value)(q:Int×Int):Prop:=∃a t u,v=.ref a/\IsTup h a #[.int q.1 t,.int q.2 u]
set_option tactic.hygienic false
theorem eA.keep{h':Heap}(x:eA h v q)(k:∀b o,h.get? b=some o->h'.get? b=some o):eA h' v q:=by obtain⟨a,t,u,e,z⟩:=x;exact⟨a,t,u,e,z.keeps k⟩
def dz(q:Int×Int):Int:=1000*q.1+q.2
section
variable{prog:Program}{w:World}{A:Around}{E:Value->Shared->Prop}{s:Shared}
theorem ER(hx:eA s.heap x p)(hy:eA s.heap y q)(bp:0<=p.2/\p.2<1000)(bq:0<=q.2/\q.2<1000)(h:C (decide (dz p<dz q)) s):wpAny (model prog w) A (keyLt' (tuples' true) x y) C E s:=by
 obtain⟨a,t,u,rfl,o,ho,-,n,hd⟩:=hx;obtain⟨b,t',u',rfl,o',ho',-,n',hd'⟩:=hy;refine kat_lt ho hd ho' hd' ?_;unfold dz at h;refine kat_cons (wpAny_eqBool_int (kat_go (λe=>kat_yes (kat_cons (wpAny_eqBool_int (kat_go (λe2=>kat_yes (kat_nil ?_)) λe2=>kat_no (kat_one _ _ (lt_int ?_)))))) λe=>kat_no (oneLt_int ?_)))
 .have e:=Nx.mp e
  rwa[show decide (1000*p.1+p.2<1000*q.1+q.2)=false from Mt (by omega)]at h
 .have e:=Nx.mp e
  rwa[show decide (1000*p.1+p.2<1000*q.1+q.2)=decide (p.2<q.2)from decide_eq_decide.mpr (by omega)]at h
 .simp at e
  rwa[show decide (1000*p.1+p.2<1000*q.1+q.2)=decide (p.1<q.1)from decide_eq_decide.mpr (by omega)]at h
theorem vM{ps:List (Int×Int)}{Q:SortKind->Shared->Prop}(d:1<=c.length)(f:Paired (eA s.heap) c ps)(h:Q (tuples' true) s):wpAny (model prog w) A (keyKind' c.toArray) Q E s:=by
 obtain⟨b,m,C,x⟩:∃b,KatTups s.heap c b/\b.length=c.length/\∀v∈b,∃i t,v=.int i t:=by
  clear d h
  induction f with
  |nil=>exact⟨[],.nil,rfl,λv hv=>by cases hv⟩|cons r _ l =>
   obtain⟨b,p,e,q⟩:=l;obtain⟨a,t,u,rfl,o,y,j,n,g⟩:=r;refine⟨_,KatTups.cons y j g rfl p,by simp[e],λv hv=> ?_⟩
   rcases Ml.mp hv with z|z
   .exact⟨_,_,z⟩
   .exact q v z
 refine kat_kind (T:=.type "int") m (by omega) (λv hv=> ?_) (by decide) h;obtain⟨i,t,rfl⟩:=x v hv;exact .now
theorem yX:∀{a:List Value},a.length<2->(a.toArray.zip a.toArray).map (·.2)=a.toArray
 |[],_=>by simp|[_],_=>by simp|_::_::_,h=>absurd h (by simp)
theorem uk:∀{a:List Value},a.length<2->(List.range a.length).map (λi=>a.getD i Value.none)=a
 |[],_=>rfl|[_],_=>rfl|_::_::_,h=>absurd h (by simp)
theorem Ab{f:Nat->Int}:∀{n:Nat},n<2->((List.range n).map f).Pairwise (·<=·)
 |0,_=>.nil|1,_=>by show([f 0]:List Int).Pairwise (·<=·);exact List.pairwise_singleton _ _|_+2,h=>absurd h (by omega)
theorem sU{P:PySem.Fin->Shared->Prop}(e:s.heap.get? a=some (seqObj "list" b.toArray n))(f:b.length<2)
  (h:P (.done (.ret .none)) {s with heap:=sortedHeap s.heap a b b.toArray}):wpAny (model prog w) A (Builtin.«list.sort» ⟨[.ref a],[]⟩) P E s:=by
 rw[list_sort_plain];refine MS (listItems_at e rfl (MS (listUpdate_at e rfl ?_ (by rw[Me,NR];omega) (M6 _))));obtain⟨d,j⟩:∃d,(s.heap.update a (Obj.mapSeq λ_=>(#[]:Array Value))).get? a=some (seqObj "list" #[] d):=⟨_,get?_update_seq e λ_=> #[]⟩;refine MS (seqEpoch_at j rfl (MS (wpAny_newTuple ?_ (by show b.length<=_;rw[NR];omega))));refine MS (Po ?_ (M6 _));refine NV ?_;have i:(((s.heap.update a (Obj.mapSeq λ_=>(#[]:Array Value))).push (seqObj "tuple" b.toArray 0)).push (seqObj "list" #[] 0)).get? a=some (seqObj "list" #[] d):=MU _ (MU _ j);dsimp only;have g:b.toArray.size<2:=by rwa[Me]
 rw[Ma g,Ma g];refine MS (MV ?_);refine MS (MV ?_);have c:(arrOf (SortSt.mk' general' (b.toArray.zip b.toArray) #[] 7 none)).map (·.2)=b.toArray:=by exact yX f
 rw[c];refine MS (seqEpoch_at i rfl ?_);refine MS (listUpdate_at i rfl ?_ (M6 _) (by rw[Me,NR];omega));simp only[bne_self_eq_false,OZ,Om];exact MV h
theorem jY{F:Value->Int×Int->Prop}:∀{b:List Value}{a:List (Int×Int)},Paired F b a->∀i,i<b.length->F (b.getD i Value.none) (a.getD i (0,0))/\a.getD i (0,0)∈a
 |_,_,.cons r _,0,_=>⟨r,MX⟩|_,_,.cons _ t,i+1,h=>by have:=jY t i (by simpa using h);exact⟨this.1,MW _ this.2⟩
theorem om(hl:s.heap.IsList l vs.toArray)(hp:Paired (eA s.heap) vs ps)(hb:∀q∈ps,0<=q.2/\q.2<1000)(h64:vs.length<64)
  (h:∀js:List Nat,js.Perm (List.range vs.length)->(js.map λi=>dz (ps.getD i (0,0))).Pairwise (·<=·)->Q (.ref (s.heap.objs.size+1)) {s with heap:=sortedAll s.heap vs (js.map λi=>vs.getD i Value.none).toArray}) :
  wpAny (model prog w) A (call (.builtin "sorted") [.ref l]) Q E s:=by
 refine P4 kind_sorted plain_sorted entry_sorted (args_sorted1 _) ?_;refine MS (MV ?_);refine MS (collect_list hl ?_ (by rw[NR];omega));refine MS (Po ?_ (by rw[NR];omega));have hsz:((s.heap.push (seqObj "list" #[] 0)).update s.heap.objs.size (Obj.mapSeq (·++vs.toArray))).objs.size=s.heap.objs.size+1:=by rw[Heap.size_update,size_push']
 have hoL:(((s.heap.push (seqObj "list" #[] 0)).update s.heap.objs.size (Obj.mapSeq (·++vs.toArray))).push (seqObj "list" vs.toArray 0)).get? (s.heap.objs.size+1)=some (seqObj "list" vs.toArray 0):=by rw[<- hsz];exact Mg _ rfl
 have keep:∀b o,s.heap.get? b=some o->(((s.heap.push (seqObj "list" #[] 0)).update s.heap.objs.size (Obj.mapSeq (·++vs.toArray))).push (seqObj "list" vs.toArray 0)).get? b=some o:=λb o e=>by refine MU _ ?_;rw[Mw _ _ (Ni (Mi e))];exact MU _ e
 rw[hsz]
 by_cases h2:vs.length<2
 .refine MS (NV (NE slot_list_sort ⟨_,hoL,rfl⟩ entry_list_sort (sU hoL h2 ⟨_,rfl,?_⟩) (args_list_sort _)))
  have q:=h (List.range vs.length) (List.Perm.refl _) (Ab h2);rw[uk h2]at q;exact MV ⟨_,rfl,q⟩
 .have hp2:∀s1:Shared,(∀b o,b≠s.heap.objs.size+1->(((s.heap.push (seqObj "list" #[] 0)).update s.heap.objs.size (Obj.mapSeq (·++vs.toArray))).push (seqObj "list" vs.toArray 0)).get? b=some o->s1.heap.get? b=some o)->∀{v:Value}{q:Int×Int},eA s.heap v q->eA s1.heap v q:=λs1 k v q x =>
   x.keep λb o e=>k b o (Ms (Np (Mi e))) (keep b o e)
  refine MS (NV (NE slot_list_sort ⟨_,hoL,rfl⟩ entry_list_sort (ET (κ:=tuples' true) (key:=λi=>dz (ps.getD i (0,0))) hoL (by omega) h64 (λs1 Q1 k q1=> ?_) (λs1 i j C k hi hj c=> ?_) ⟨_,rfl,?_⟩) (args_list_sort _)))
  .exact vM (by omega) (L2.Paired.mapP hp λ_ _ x=>hp2 s1 k x) q1
  .obtain⟨x1,m1⟩:=jY hp i hi
   obtain⟨x2,m2⟩:=jY hp j hj;exact ER (hp2 s1 k x1) (hp2 s1 k x2) (hb _ m1) (hb _ m2) c
  .obtain⟨z1,z2⟩:=sort (n:=vs.length) (by omega)
   exact MV ⟨_,rfl,h _ z1 z2⟩
end
end SW
namespace L2
open PySem PySem.Spec PyProof.Rows
inductive Jl(K:W.Frag)(H:Hp):List V->List (Int×Int)->Prop
 | nil:Jl K H [] []
 | cons {a:Addr} {q:Int×Int} {us:List V} {ps:List (Int×Int)} (h:bT K H a [.int q.1,.int q.2]) (t:Jl K H us ps):Jl K H (.ref a::us) (q::ps)
set_option tactic.hygienic false
theorem Jl.len{K:W.Frag}(h:Jl K H a b):a.length=b.length:=by
 induction h with
 |nil=>rfl|cons _ _ c=>simp[c]
theorem aM.pick{a:List V}{d:List Value}(r:aM a d):∀{b:List Nat},(∀j∈b,j<a.length)->aM (b.map λi=>a.getD i .non) (b.map λi=>d.getD i Value.none)
 |[],_=>.nil|j::b,h=>by have c:=h j MX;obtain⟨v,e,f⟩:=r.get (Mk c);refine .cons ?_ (aM.pick r λi hi=>h i (MW _ hi));dsimp only;rwa[Mf,Mk c,Mf,e]
section
variable{X:Cx}
theorem iX:bA X (.builtin "sorted") (λxs H Q=>∃(p:Addr)(us:List V)(ps:List (Int×Int)),xs=[.ref p]/\bH X.K H p us/\Jl X.K H us ps/\us.length<64/\(∀q∈ps,0<=q.2/\q.2<1000) /\ ∀a (js:List Nat),H a=none->js.Perm (List.range us.length)->(js.map λi=>SW.dz (ps.getD i (0,0))).Pairwise (·<=·)->Q (.ref a) (upd H a (.lst (js.map λi=>us.getD i .non)))):=by
 intro pins s σ H xs us Q I r h;obtain⟨p,ws,ps,rfl,hq,hp,h64,hb,q⟩:=h;obtain⟨u,rfl,rx⟩:=vals1 r;cases rx;obtain⟨its,r',pl,hz⟩:=I.list hq;have hlen:=r'.length;have pr:Paired (SW.eA s.heap) its ps:=by
  clear q hb h64 hq pl hz hlen
  induction hp generalizing its with
  |nil =>cases r';exact .nil
  |cons ht _ ih =>
   cases r' with
   |cons rv t =>refine .cons ?_ (ih _ t);cases rv;obtain⟨ys,ry,tp,_⟩:=I.tuple ht;obtain⟨y1,y2,rfl,⟨t1,rfl⟩,e2⟩:=vals2 ry;obtain⟨t2,rfl⟩:=e2;exact⟨_,t1,t2,rfl,tp⟩
 refine SW.om pl.isList pr hb (by omega) λjs pm pw=> ?_;obtain⟨c,hc⟩:=sortedAll_at s.heap its (js.map λi=>its.getD i Value.none).toArray;rw[<- hlen]at pm;refine⟨.ref (s.heap.objs.size+1),_,I.laid (λb o z=>sortedAll_old z) (O4 _) ?_,rfl,q _ js (I.hok.fresh (O4 _)) pm pw⟩;refine⟨?_,js.map λi=>its.getD i Value.none,c,aM.pick r' λj hj=>ND.mp (pm.mem_iff.mp hj),by simpa [seqObj]using hc⟩;rw[MT,pm.length_eq,NT,NR];omega
end
end L2
namespace SR
open PySem PyProof.Rows
end SR
set_option maxHeartbeats 800000
namespace SR
open PySem PyProof.Rows
set_option tactic.hygienic false
theorem oq:Slot "reversed" "__init__" "object.__init__" :=
 .of (owner:="object") (n:="__init__") (by rw[Oj,N2];kernel_rfl) (by decide +kernel) (by decide +kernel) (by decide +kernel)
  (by first|exact .inl (by decide +kernel)|exact .inr (by decide +kernel)) (by rw[PL];kernel_rfl)
theorem bS:Slot "reversed" "__next__" "reversed.__next__" :=
 .of (owner:="reversed") (n:="__next__") (by rw[Oj,N2];kernel_rfl) (by decide +kernel) (by decide +kernel) (by decide +kernel)
  (by first|exact .inl (by decide +kernel)|exact .inr (by decide +kernel)) (by rw[PL];kernel_rfl)
theorem cW:Slot "reversed" "__iter__" "reversed.__iter__" :=
 .of (owner:="reversed") (n:="__iter__") (by rw[Oj,N2];kernel_rfl) (by decide +kernel) (by decide +kernel) (by decide +kernel)
  (by first|exact .inl (by decide +kernel)|exact .inr (by decide +kernel)) (by rw[PL];kernel_rfl)
theorem eg:Slot "reversed" "__length_hint__" "reversed.__length_hint__" :=
 .of (owner:="reversed") (n:="__length_hint__") (by rw[Oj,N2];kernel_rfl) (by decide +kernel) (by decide +kernel) (by decide +kernel)
  (by first|exact .inl (by decide +kernel)|exact .inr (by decide +kernel)) (by rw[PL];kernel_rfl)
theorem gK:entryFor table "reversed.__next__"=some Builtin.«reversed.__next__»:=entryFor_of_tree (by kernel_rfl)
theorem mx:entryFor table "reversed.__length_hint__"=some Builtin.«reversed.__length_hint__»:=entryFor_of_tree (by kernel_rfl)
theorem gL:entryFor table "reversed.__iter__"=some Builtin.«dict_keyiterator.__iter__» := entryFor_alias (id' :="dict_keyiterator.__iter__") (by kernel_rfl) (by first|rfl|decide +kernel) (by decide +kernel) (by kernel_rfl)
theorem ik(a:Value):argsOk "reversed.__next__" ⟨[a],[]⟩:=by kernel_rfl
theorem il(a:Value):argsOk "reversed.__iter__" ⟨[a],[]⟩:=by kernel_rfl
theorem qF(a:Value):argsOk "reversed.__length_hint__" ⟨[a],[]⟩:=by kernel_rfl
theorem jg:TypeCalled "reversed" "reversed.__new__" "object.__init__" := ⟨by decide +kernel,by decide +kernel,⟨_,_,F.mro_reversed⟩,F.made_reversed,F.plain_reversed_new,F.sub_reversed_self,oq⟩
theorem qt:typeLookup (.type "tuple") "__reversed__"=pure none:=by kernel_rfl
theorem Ah:typeLookup (.type "reversed") "__len__"=pure none:=by kernel_rfl
def Jv(t:Addr)(i:Int):Obj:={cls:=.type "reversed",data:=.fields #[.ref t,rawInt i]}
def cS(I t:Addr)(i:Int)(h:Heap):Prop:=∃o,h.get? I=some o/\o.cls=.type "reversed"/\o.data=.fields #[.ref t,rawInt i]
theorem cS.typeIs{t:Addr}{s:Shared}(x:cS I t i s.heap):s.TypeIs (.ref I) "reversed":=let⟨o,ho,hc,_⟩:=x;⟨o,ho,hc⟩
theorem cS.keep{t:Addr}{h':Heap}(x:cS I t i h)(k:∀o,h.get? I=some o->h'.get? I=some o):cS I t i h' :=let⟨o,ho,r⟩:=x;⟨o,k o ho,r⟩
section
variable{prog:Program}{w:World}{A:Around}{E:Value->Shared->Prop}{s:Shared}
theorem Hx{t:Addr}(e:IsTup s.heap t c)(f:c.size<=sizeLine)(h:∀g,Q (.ref s.heap.objs.size) {s with heap:=s.heap.push (Jv t ((c.size:Int)-1)),toks:=g}) :
  codeAny (model prog w) A (.call (.builtin "reversed.__new__") ⟨[.type "reversed",.ref t],[]⟩) (wants Q E) s:=by
 refine codeAny_of_tree ?_;refine MS (Nv (F.newCall_reversed_1 _) (MV ⟨Oo F.plain_reversed_new _,Nl F.entry_reversed_new ?_⟩));refine MS (Nv (newClass_reversed _) ?_)
 try dsimp only
 refine MS (Nv (by first|rfl|kernel_rfl) ?_);refine MS (Nv (by first|rfl|kernel_rfl) ?_)
 try dsimp only
 refine MS (OT e.typeIs qt ?_)
 try dsimp only
 have d:wpAny (model prog w) A.in1 (do
   if<-isInstance (.ref t) (.type "dict")then return false
   match<-specialOf (.ref t) "__getitem__" with
   |none=>return false|some (.builtin id) =>
    if["tuple.__getitem__","str.__getitem__","bytes.__getitem__","bytearray.__getitem__","memoryview.__getitem__","numpy.ndarray.__getitem__","sqlite3.Row.__getitem__"].contains id then return true
    if id=="sqlite3.Blob.__getitem__" then return false
    unsupported "reversed.__new__:is-it-a-sequence"
   |some _=>return true) (λb s1=>b=true/\s1=s) E s:=by
  refine MS (Ou e.typeIs F.sub_tuple_dict ?_);refine MS (OT e.typeIs NW.lookup ?_);dsimp only;exact MV ⟨rfl,rfl⟩
 refine MS (No d (λb s1 hb=> ?_) λ_ _ x=>x);obtain⟨rfl,rfl⟩:=hb;refine MS (len_tuple e (by rw[NR]at f;omega) ?_);refine MS (Nv rfl ?_)
 try dsimp only
 refine MS ?_;show wpAny _ _ (newObj (.type "reversed") (.fields #[.ref t,rawInt ((c.size:Int)-1)])) _ _ _;refine NC (MV ?_);exact h _
theorem xl{t:Addr}(ht:IsTup s.heap t its)(hz:its.size<=sizeLine)(h:∀tk,Q (.ref s.heap.objs.size) {s with heap:=s.heap.push (Jv t ((its.size:Int)-1)),toks:=tk}) :
  wpAny (model prog w) A (call (.type "reversed") [.ref t]) Q E s:=by
 refine callType_codes (Q₁:=λob s₁=>s₁.TypeIs ob "reversed"/\Q ob s₁) jg (F.typeCall_reversed_1 _) F.entry_object_init (Hx ht hz λtk=>⟨⟨_,Mg _ rfl,rfl⟩,h tk⟩) λob s₁ h₁=> ?_;exact⟨h₁.1,F.args_object_init_2 ob _,object_init_meets jg.init.lookup jg.made (by decide) prog w A.in1 _ s₁ ⟨h₁.1,rfl,h₁.2⟩⟩
theorem pk(p:A.handled=none){t:Addr}(l:cS I t ((c.size:Int)-1-(c.size:Nat)) s.heap/\IsTup s.heap t c)
  (n:∀h,(∀b o,b≠I->s.heap.get? b=some o->h.get? b=some o)->(∃o,h.get? I=some o)->Q none {s with heap:=h}):wpAny (model prog w) A (pyNext (.ref I)) Q E s:=by
 obtain⟨g,q⟩:=l;obtain⟨o,f,r,d⟩:=id g;refine MS (Ob (Nb g.typeIs bS (NE bS g.typeIs gK ?_ (ik _))));refine MS (Nv rfl ?_)
 try dsimp only
 refine MS (Nt f d rfl ?_);refine MS (Nt f d rfl ?_);show wpAny _ _ (if((c.size:Int)-1-(c.size:Nat))<0 then _ else _) _ _ s;rw[Ma (by omega)];refine MS (Pm ?_);have i:=M3 (Obj.mapFields (·.setIfInBounds 1 (rawInt (-1)))) f (Nj (NK d _));have j:=NK d (·.setIfInBounds 1 (rawInt (-1)));refine MS (MS (Nu f d (by simp) (Nu i j (by simp) ?_)));refine MS (MS ?_);refine MS (NC ?_ (by size_fits));refine MS (Nv (by first|rfl|(simp only[firstArgMember];rfl)) ?_);refine NC ?_ (by size_fits);refine MS (wpAny_handled ?_);rw[show A.in1.handled=none from p];refine MS (MV (wpAny_throw ?_));refine MS (Ou ⟨_,Mg _ rfl,rfl⟩ isSubtype_stop ?_);refine MV (n _ (λb ob hb e=> ?_) ⟨_,MU _ (MU _ (M3 _ i (Nj (NK j _))))⟩);refine MU _ (MU _ ?_);rwa[Mw _ _ (Nd hb),Mw _ _ (Nd hb)]
theorem oY(y:A.handled=none){I t:Addr}{c:Array Value}(l:t≠I)(D:c.size<=sizeLine) :
  Walks prog w A I [I,t] [I] c.size (λi v=>c[c.size-1-i]? =some v) (λi h=>cS I t ((c.size:Int)-1-(i:Nat)) h/\IsTup h t c) where
 sub:=λb hb=>by simp at hb;simp[hb]
 frame:=λ_ _ _ st hk=>⟨st.1.keep λo e=>hk I (by simp) o e,by
  obtain⟨o,d,r⟩:=st.2;exact⟨o,hk t (by simp) o d,r⟩⟩
 item:=λi s Q E hi st hQ=>by
  obtain⟨p,g⟩:=st;obtain⟨o,d,C,f⟩:=id p;have H :c.size<=16777216:=by rw[NR]at D;omega
  have q:c[c.size-1-i]? =some c[c.size-1-i]:=PH (by omega);refine MS (Ob (Nb p.typeIs bS (NE bS p.typeIs gK ?_ (ik _))));refine MS (Nv rfl ?_)
  try dsimp only
  refine MS (Nt d f rfl ?_);refine MS (Nt d f rfl ?_);show wpAny _ _ (if((c.size:Int)-1-i)<0 then _ else _) _ _ s;rw[MY (by omega)];refine MS (OT g.typeIs NW.lookup ?_);refine MS (wpAny_mkInt ?_);have m :=g;refine MS (Ob (getItem_tuple m (by omega) (by omega) ?_ q ?_))
  .have e:((c.size:Int)-1-(i:Nat))=((c.size-1-i:Nat):Int):=by omega
   unfold seqIndex?;simp;omega
  .try dsimp only
   refine MS (Nt d f rfl ?_);refine MS (Nu d f (by simp) (MV ⟨_,rfl,MV ?_⟩));refine hQ _ _ (s.toks+1) q ⟨⟨_,M3 _ d (Nj (NK f _)),(PF ..).trans C,?_⟩,?_⟩ λb ob hb e=> ?_
   .rw[NK f]
    simp[rawInt];omega
   .obtain⟨u,n,r⟩:=g
    exact⟨u,by rwa[Mw _ _ (Nd l)],r⟩
   .rw[Mw _ _ (λz=>hb (by simp[z]))]
    exact e
 done:=λs Q E st hQ=>pk y st λh' k _=>hQ h' s.toks λb ob hb e=>k b ob (λz=>hb (by simp[z])) e
 self:=λi s Q E st hQ=>by refine PC st.1.typeIs cW (NE cW st.1.typeIs gL ?_ (il _));exact MV ⟨_,rfl,"reversed",_,st.1.typeIs,bS.lookup,hQ⟩
theorem Eo{t:Addr}(p:1<=c.size)(i:c.size<=sizeLine)(d:cS I t ((c.size:Int)-1) s.heap)(l:IsTup s.heap t c) :
  wpAny (model prog w) A (Builtin.List.listLengthHint (.ref I)) (λb s1=>b=true/\∃f,s1={s with toks:=f}/\s.toks<=f) E s:=by
 have n :c.size<=16777216:=by rw[NR]at i;omega
 obtain⟨o,g,q,h⟩:=id d;refine MS (OT d.typeIs Ah ?_)
 try dsimp only
 refine MS (OT d.typeIs eg.lookup ?_)
 (generalize e:("reversed.__length_hint__":String)=id0;(fail_if_success (clear e id0));wp_delta;rw[show splitId id0=some ("reversed","__length_hint__")from by subst e;decide +kernel];subst e)
 refine MS (Ou d.typeIs F.sub_reversed_self ?_);rw[MY (show¬((!true)=true)from MZ)]
 try dsimp only
 refine MS (Pm ?_);refine MS (Nv (eg.bind _) ?_)
 try dsimp only
 refine MS (Ob (NE eg d.typeIs mx ?_ (qF _)));refine MS (Nv rfl ?_);refine MS (Nt g h (x:=.ref t) rfl ?_);refine MS (len_tuple l (by omega) ?_);refine MS (Nv rfl ?_)
 try dsimp only
 refine MS (Nt g h rfl ?_);show wpAny _ _ (if(c.size:Int)<(c.size:Int)-1+1 then _ else _) _ _ _;rw[MY (by omega)];refine MS (wpAny_mkInt (MV ⟨_,rfl,?_⟩))
 try dsimp only
 refine MS (Nv rfl ?_)
 try dsimp only
 have m:Builtin.List.listFitsIndex ((c.size:Int)-1+1)=true:=by unfold Builtin.List.listFitsIndex;simp;omega
 rw[m,MY (show¬((!true)=true)from MZ),MY (by omega)];have j:Builtin.List.listTooLong ((c.size:Int)-1+1).toNat=false:=by unfold Builtin.List.listTooLong;omega
 rw[j,MY MZ];exact MV ⟨bne_iff_ne.mpr (by omega),_,rfl,by show s.toks<=s.toks+1+1+1;omega⟩
set_option tactic.hygienic true in
theorem EU(C:A.handled=none){t:Addr}(m:t≠I)(M:a.size<=sizeLine)(y:D∉[I,t])(res:Value) :
  ∀(k i:Nat)(s:Shared)(d:Array Value)(c:Nat),a.size-i=k->i<=a.size->cS I t ((a.size:Int)-1-(i:Nat)) s.heap/\IsTup s.heap t a->s.heap.get? D=some {cls:=.type "list",dict:=none,data:=.seq d c,slots:= #[]}->d.size=i->(∀j v,d[j]? =some v->a[a.size-1-j]? =some v) -> (∀(f :Shared) acc' c',(∀b o,b≠I->b≠D->s.heap.get? b=some o->f.heap.get? b=some o)->(∃o,f.heap.get? I=some o)->f.gens=s.gens->f.drawn=s.drawn->f.os=s.os->f.heap.get? D=some {cls:=.type "list",dict:=none,data:=.seq acc' c',slots:= #[]}->acc'.size=a.size->(∀j v,acc'[j]? =some v->a[a.size-1-j]? =some v)->R (.ok (.ret res)) f) -> codeAny (model prog w) A (.builtin "list.extend.loop" ⟨[.ref D,.ref I,res],[]⟩) R s:=by
 have n:D≠I:=λz=>y (by simp[z]);have O:D≠t:=λz=>y (by simp[z]);intro k
 induction k with
 |zero =>
  intro i s d c N Q p x h r q;have e:i=a.size:=by omega
  subst e;refine Nl F.entry_extend_loop ?_;refine MS (pk (A:=A.in1) C p λh' kp ex=> ?_);exact MV (q _ d c (λb o b1 _ z=>kp b o b1 z) ex rfl rfl rfl (kp D _ n x) h r)
 |succ k L =>
  intro i s d c N Q p x h r q;refine Nl F.entry_extend_loop ?_;refine MS ((oY (prog:=prog) (w:=w) (A:=A.in1) C m M).item i s _ _ (by omega) p λv h1 tk hv st1 kp=> ?_);have g:=kp D _ (by simp[n]) x;refine MS (Pu g rfl (MV ⟨Oo F.plain_extend_loop _,L (i+1) _ (d.push v) _ (by omega) (by omega) ⟨?_,?_⟩ (M3 _ g rfl) (by rw[Array.size_push,h]) (λj u hu=> ?_) λs2 acc2 c2 k2 ex2 g2 d2 o2 gD2 z2 j2=> ?_⟩) (by omega) (by show(d.push v).size<=sizeLine+1;rw[Array.size_push];omega))
  .have:=st1.1.keep (h' :=h1.update D (Obj.mapSeq (·.push v))) λo z=>by rwa[Mw _ _ n]
   simpa using this
  .obtain⟨J,l,H⟩:=st1.2
   exact⟨J,by rwa[Mw _ _ O],H⟩
  .rw[Array.getElem?_push]at hu
   split at hu
   .rename_i e
    cases hu;rwa[e,h]
   .exact r j u hu
  .refine q s2 acc2 c2 (λb o b1 b2 z=>k2 b o b1 b2 ?_) ex2 g2 d2 o2 gD2 z2 j2
   rw[Mw _ _ (Nd b2)];exact kp b o (by simp[b1]) z
theorem vb{t:Addr}(hh:A.handled=none)(h1:1<=its.size)(hz:its.size<=sizeLine)(it:cS I t ((its.size:Int)-1) s.heap)(ht:IsTup s.heap t its)(hne:t≠I)
  (h:∀s' :Shared,(∀b o,b≠I->s.heap.get? b=some o->s'.heap.get? b=some o)->(∃o,s'.heap.get? I=some o)->s.heap.objs.size<s'.heap.objs.size->s'.gens=s.gens->s'.drawn=s.drawn->s'.os=s.os->Q its.toList.reverse s') :
  wpAny (model prog w) A (collect (.ref I)) Q E s:=by
 obtain⟨o,ho,hc,hd⟩:=id it;obtain⟨o2,ho2,hr2⟩:=id ht;have hI:I<s.heap.objs.size:=Mi ho;have hT:t<s.heap.objs.size:=Mi ho2;unfold collect;refine MS (wpAny_runValue (Nl F.entry_proto_collect ?_));rw[Nf F.plain_proto_collect _];show wpAny _ A.in1 (newList [] >>= λl=>again (.builtin "list.__iadd__" ⟨[l,.ref I],[]⟩)) _ _ s;refine MS (NC (MV ⟨Oo F.plain_list_iadd _,Nl F.entry_list_iadd ?_⟩));rw[Nf F.plain_list_iadd _];have k0:(s.heap.push {cls:=.type "list",data:=.seq ([]:List Value).toArray}).get? s.heap.objs.size=some {cls:=.type "list",data:=.seq ([]:List Value).toArray}:=Mg _ rfl;have it1:cS I t ((its.size:Int)-1) (s.heap.push {cls:=.type "list",data:=.seq ([]:List Value).toArray}):=it.keep λob e=>MU _ e;have ht1:IsTup (s.heap.push {cls:=.type "list",data:=.seq ([]:List Value).toArray}) t its:=ht.keeps λb ob e=>MU _ e;show wpAny _ A.in1 (Builtin.List.listExtendWith (.ref s.heap.objs.size) (.ref I) (.ref s.heap.objs.size)) _ _ _;unfold Builtin.List.listExtendWith;refine MS (O0 (cS.typeIs (s:={s with heap:=s.heap.push {cls:=.type "list",data:=.seq ([]:List Value).toArray}}) it1) ?_);have n1:Builtin.List.listSameRef (.ref s.heap.objs.size) (.ref I)=false:=by simp only[Builtin.List.listSameRef,OC];exact Ni hI
 rw[MY (by rw[n1];decide)];have hW:=oY (prog:=prog) (w:=w) (A:=A.in1) hh hne hz;refine MS (hW.self 0 _ _ _ ⟨by simpa using it1,ht1⟩ ?_);refine MS (NV (No (Eo (s:={s with heap:=s.heap.push {cls:=.type "list",data:=.seq ([]:List Value).toArray}}) h1 hz it1 ht1) (λb s1 hb=> ?_) λ_ _ x=>x));obtain⟨rfl,tk,rfl,htk⟩:=hb;rw[Ma (by rfl)];refine MS (Pm ?_);have u1:=M3 (Obj.mapSeq (·.push Value.none)) k0 rfl;have u2:=M3 (Obj.mapSeq (·.pop)) u1 rfl;refine MS ?_;show wpAny _ A.in1 (updateSeq s.heap.objs.size (·.push .none) >>= λ_=>updateSeq s.heap.objs.size (·.pop)) _ _ _;refine MS (Pu k0 rfl ?_);refine Pu u1 rfl ?_;have oth:∀b ob,b≠s.heap.objs.size->(s.heap.push {cls:=.type "list",data:=.seq ([]:List Value).toArray}).get? b=some ob->(((s.heap.push {cls:=.type "list",data:=.seq ([]:List Value).toArray}).update s.heap.objs.size (Obj.mapSeq (·.push Value.none))).update s.heap.objs.size (Obj.mapSeq (·.pop))).get? b=some ob:=λb ob nb e=>by rw[Mw _ _ (Nd nb),Mw _ _ (Nd nb)];exact e
 have nf:s.heap.objs.size∉[I,t]:=by simp only[Ml,NJ,OV,Pd];exact⟨Ni hI,Ni hT⟩
 refine MV ⟨Oo F.plain_extend_loop _,EU hh hne hz nf _ its.size 0 _ _ _ rfl (M6 _) ⟨by simpa using it1.keep λob e=>oth _ _ (Ms hI) e,by
  obtain⟨o3,ho3,r3⟩:=ht1;exact⟨o3,oth _ _ (Ms hT) ho3,r3⟩⟩ u2 rfl (λj v hv=>by simp at hv) λs' acc c kp ex g d os hacc hs1 hs2=> ?_⟩
 show wpAny _ A (load s.heap.objs.size >>= _) _ _ s';refine MS (wpAny_load hacc ?_);have eacc:acc.toList=its.toList.reverse:=by
  apply Oz
  intro i;rw[Nh];cases e:acc[i]? with
  |some v =>
   have hi:i<its.size:=by
    have:=hs1;have:i<acc.size:=by
     rcases Oq i acc.size with z|z
     .exact z
     .rw[PY z]at e;cases e
    omega
   have z:=hs2 i v e;rw[List.getElem?_reverse (by simpa using hi),Nh,M0];exact z.symm
  |none =>
   have:acc.size<=i:=by simpa using e
   rw[hs1]at this;rw[Ng (by simpa using this)]
 show wpAny _ _ (pure acc.toList) _ _ _;rw[eacc];refine MV (h s' (λb ob nb e=> ?_) ex (Mi hacc) g d os);have hb:=Mi e;exact kp b ob nb (Ms hb) (oth b ob (Ms hb) (MU _ e))
theorem mz{t:Addr}(x:A.handled=none)(n:1<=a.size)(j:a.size<=sizeLine)(i:cS I t ((a.size:Int)-1) s.heap)(m:IsTup s.heap t a)(f:t≠I)
  (h:∀c :Shared,(∀b o,b≠I->s.heap.get? b=some o->c.heap.get? b=some o)->(∃o,c.heap.get? I=some o)->s.heap.objs.size<c.heap.objs.size->c.gens=s.gens->c.drawn=s.drawn->c.os=s.os->Q (.ref c.heap.objs.size) {c with heap:=c.heap.push {cls:=.type "tuple",data:=.seq a.toList.reverse.toArray}}) :
  codeAny (model prog w) A (.call (.builtin "tuple.__new__") ⟨[.type "tuple",.ref I],[]⟩) (wants Q E) s:=by
 refine codeAny_of_tree ?_;show wpAny _ A.in1 (do checkBuiltinCall "tuple.__new__" ⟨[.type "tuple",.ref I],[]⟩;again (.builtin "tuple.__new__" ⟨[.type "tuple",.ref I],[]⟩)) _ _ s;refine MS (Nv (F.newCall_tuple_1 _) (MV ⟨Oo F.plain_tuple_new _,Nl F.entry_tuple_new ?_⟩));rw[Nf F.plain_tuple_new _];have z:=sub_tuple_self;have y:=init_tuple_lookup;have C:=madeHere_tuple;have r:=i.typeIs;have l:A.in1.handled=none:=x
 wp_walk using O0 r,vb l n j i m f
 intro c e p u g d q;show wpAny _ _ (Builtin.Tuple.tupleExact a.toList.reverse.toArray >>= λv=>ret v) _ _ _;unfold Builtin.Tuple.tupleExact;refine MS (NC (MV (h c e p u g d q)) (by show a.toList.reverse.toArray.size<=sizeLine;simpa using j))
theorem nB{t:Addr}(hh:A.handled=none)(h1:1<=its.size)(hz:its.size<=sizeLine)(it:cS I t ((its.size:Int)-1) s.heap)(ht:IsTup s.heap t its)(hne:t≠I)
  (h:∀s' :Shared,(∀b o,b≠I->s.heap.get? b=some o->s'.heap.get? b=some o)->(∃o,s'.heap.get? I=some o)->s.heap.objs.size<s'.heap.objs.size->s'.gens=s.gens->s'.drawn=s.drawn->s'.os=s.os->Q (.ref s'.heap.objs.size) {s' with heap:=s'.heap.push {cls:=.type "tuple",data:=.seq its.toList.reverse.toArray}}) :
  wpAny (model prog w) A (call (.type "tuple") [.ref I]) Q E s:=by
 refine callType_codes (Q₁:=λob s₁=>s₁.TypeIs ob "tuple"/\Q ob s₁) F.called_tuple (F.typeCall_tuple_1 _) F.entry_object_init (mz hh h1 hz it ht hne λs' a b c d e f=>⟨⟨_,Mg _ rfl,rfl⟩,h s' a b c d e f⟩) λob s₁ h₁=> ?_;exact⟨h₁.1,F.args_object_init_2 ob _,object_init_meets F.called_tuple.init.lookup F.called_tuple.made (by decide) prog w A.in1 _ s₁ ⟨h₁.1,rfl,h₁.2⟩⟩
end
end SR
namespace L2
open PySem PySem.Spec PyProof.Rows
section
variable{X:Cx}
set_option tactic.hygienic false
theorem pz:bA X (.type "reversed") (λxs H Q=>∃(p:Addr)(us:List V),xs=[.ref p]/\bT X.K H p us/\∀a,H a=none->p≠a->Q (.ref a) (upd H a (.ext (SR.cS a p ((us.length:Int)-1))))):=by
 intro pins s σ H xs us Q I r h;obtain⟨p,ws,rfl,hq,q⟩:=h;obtain⟨u,rfl,rx⟩:=vals1 r;cases rx;obtain⟨its,r',tp,hz⟩:=I.tuple hq;have hlen:=r'.length;obtain⟨o,ho,_⟩:=id tp;refine SR.xl tp (by rwa[Me,<-hlen]) λtk=> ?_;have e:(((its.toArray.size:Nat):Int)-1)=(ws.length:Int)-1:=by rw[Me,hlen]
 rw[e];have ha:(s.heap.push (SR.Jv p ((ws.length:Int)-1))).get? s.heap.objs.size=some (SR.Jv p ((ws.length:Int)-1)):=Mg _ rfl;exact⟨.ref s.heap.objs.size,_,I.laid (o:=.ext (SR.cS s.heap.objs.size p ((ws.length:Int)-1))) (λb o z=>MU _ z) (Mc _) ⟨⟨_,ha,rfl,rfl⟩,⟨_,ha⟩,λh1 h2 x k=>x.keep k⟩,rfl,q _ (I.hok.fresh (Mc _)) (Ms (Mi ho))⟩
theorem py(hc:X.calm=true):bA X (.type "tuple") (λxs H Q=>∃(a p:Addr)(us:List V),xs=[.ref a]/\H a=some (.ext (SR.cS a p ((us.length:Int)-1)))/\bT X.K H p us/\1<=us.length/\p≠a/\∀d φ,H d=none->Q (.ref d) (upd (upd H a (.ext φ)) d (.tup us.reverse))):=by
 intro pins s σ H xs us Q I r h;obtain⟨a,p,ws,rfl,ha,hq,h1,hne,q⟩:=h;obtain⟨u,rfl,rx⟩:=vals1 r;cases rx;obtain⟨its,r',tp,hz⟩:=I.tuple hq;have hlen:=r'.length;have hA:=I.ext ha;have e:((ws.length:Int)-1)=(((its.toArray.size:Nat):Int)-1):=by rw[Me,hlen]
 rw[e]at hA;refine SR.nB (I.ok.hd hc) (by rw[Me];omega) (by rwa[Me,<-hlen]) hA tp hne λs' old ex lt g d os=> ?_;obtain⟨h',g',d',tk',os'⟩:=s';subst g d os;have I1:=I.write (o:=.ext λh=>∃o,h.get? a=some o) (t' :=tk') (by rw[ha];exact trivial) (.inl rfl) (λb u nb e=>old b u nb e) ex ⟨ex,ex,λh1 h2 ⟨o,x⟩ k=>⟨o,k o x⟩⟩;refine⟨.ref h'.objs.size,_,I1.laid (o:=.tup ws.reverse) (λb o z=>MU _ z) (Mc _) ⟨by rwa[OR],its.reverse,?_,?_⟩,rfl,q _ _ ?_⟩
 .exact r'.reverse
 .exact⟨_,Mg _ rfl,rfl,0,by simp,rfl⟩
 .have nf:=I1.hok.fresh (Mc _)
  by_cases z:h'.objs.size=a
  .obtain⟨oa,hoa⟩:=ex
   exact absurd (Mi hoa) (by rw[z];exact OK _)
  .rwa [aA z]at nf
end
end L2
set_option maxHeartbeats 4000000
namespace L2
open PySem PySem.Spec PyProof.Rows
section
variable{X:Cx}
def MJ(K:W.Frag)(a:Addr)(n:Nat):It :=
 ⟨λi H=>i<n/\∃b,bT K H a b/\b.length=n,λi H x H' =>H' =H/\∀b,bT K H a b->b.length=n->b[n-1-i]? =some x,λi H=>i=n/\∃b,bT K H a b/\b.length=n⟩
set_option tactic.hygienic false
theorem Ai(i:SR.cS d a j h)(l:IsTup h a b):a≠d:=by rintro rfl;obtain⟨o,e,c,_⟩:=i;obtain⟨m,f,g,_⟩:=l;rw[e]at f;cases f;rw[c]at g;exact absurd g (by decide)
theorem qr{P:Program}{w:World}{K:W.Frag}{tg:Expr}(a m:Addr)(n:Nat):nF P w K tg (MJ K a n) [m] m (λi h=>SR.cS m a ((n:Int)-1-(i:Nat)) h) where
 mem:=by simp
 obj:=λi h j b hb=>by
  have e:b=m:=by simpa using hb
  subst e;obtain⟨o,e,c,d⟩:=j;exact⟨o,e,λv z=>by rw[d]at z;cases z⟩
 keep:=λi h h' j k=>j.keep λo e=>k m (by simp) o e
 item:=by
  intro X Y S N T i p s σ H E I C j Z;subst Y S N;obtain⟨hi,L,y,x⟩:=Z;obtain⟨g,A,D,hz⟩:=I.tuple y;have l:=A.length;have f:g.toArray.size=n:=by rwa[Me,<-l]
  have hx:L[n-1-i]? =some (L[n-1-i]'(by omega)):=Mk (by omega);obtain⟨u,hu,ru⟩:=A.get hx;obtain⟨f0,U,f2,R,O,M⟩:=C m (by simp);have q:SR.cS m a ((g.toArray.size:Int)-1-i) s.heap:=by rwa[f]
  refine(SR.oY (I.ok.hd T) (Ai j D) (by rwa[f,<-x])).item i s _ _ (by rwa[f]) ⟨q,D⟩ λv h' tk hv st' sb=> ?_;have ev:v=u:=by
   rw[f]at hv;have:g.toArray[n-1-i]? =some u:=by simpa using hu
   rw[this]at hv;exact(Mx hv).symm
  subst ev;have r:SR.cS m a (n-1-((i+1:Nat):Int)) h' :=by have:=st'.1;rwa[f]at this
  obtain⟨o,e,c,d⟩:=id r;exact⟨v,rfl,oA e c d (by decide) ⟨_,H,I.turned (t' :=tk) (λb o hb e=>sb b o (by simpa using hb) e) f0 U R O M,ru,⟨rfl,λys hy _=>by rwa[I.tuple_inj hy y]⟩,r,λb hb=>(C b hb).1⟩⟩
 done:=by
  intro X Y S N T i p s σ H E I C j Z;subst Y S N;obtain⟨rfl,L,y,x⟩:=Z;obtain⟨g,A,D,hz⟩:=I.tuple y;have f:g.toArray.size=i:=by rwa[Me,<-A.length]
  obtain⟨f0,U,f2,R,O,M⟩:=C m (by simp);have q:SR.cS m a ((g.toArray.size:Int)-1-(g.toArray.size:Nat)) s.heap:=by rwa[f]
  exact SR.pk (I.ok.hd T) ⟨q,D⟩ λh' k _=>⟨rfl,I.turned (λb o hb e=>k b o hb e) f0 U R O M⟩
 self:=λA i s Q E j hQ=>by refine PC j.typeIs SR.cW (NE SR.cW j.typeIs SR.gL ?_ (SR.il _));exact MV ⟨_,rfl,"reversed",_,j.typeIs,SR.bS.lookup,hQ⟩
def iRvT(K:W.Frag)(c:TA):TI:=λσ H R=>c σ H λvs H1=>∃a b,vs=[.ref a]/\bT K H1 a b/\R (MJ K a b.length) H1
theorem HV(E:Gl X "reversed")(y:X.mg "reversed"=none)(A:PA X [a] n)(D:starEach [a] X.env=[(false,eval a X.env)]:=by rfl) :
  PI X f (.Call (.Name "reversed" p) [a] [] pos) (iRvT X.K n):=by
 intro d s i H R I h;refine Call_ (dB I E y boot_reversed (NX (aj (A pos d s i H _ I h) λus s1 ⟨vs,H1,I1,r1,q1⟩=> ?_) D rfl));obtain⟨l,c,e,x,q⟩:=q1;subst e;obtain⟨u,rfl,v⟩:=vals1 r1;cases v;obtain⟨g,r,J,C⟩:=I1.tuple x;have m:=r.length;refine SR.xl J (by rwa[Me,<-m]) λtk=> ?_;have e:(((g.toArray.size:Nat):Int)-1)=(c.length:Int)-1:=by rw[Me,m]
 rw[e];have j:SR.cS s1.heap.objs.size l ((c.length:Int)-1) (s1.heap.push (SR.Jv l ((c.length:Int)-1))):=⟨_,Mg _ rfl,rfl,rfl⟩;refine(qr (K:=X.K) (tg:=f) l s1.heap.objs.size c.length).self _ 0 _ _ _ (by rwa[show(c.length:Int)-1-((0:Nat):Int)=(c.length:Int)-1 by omega]) ?_;have z:Inv X d i H1 {s1 with heap:=s1.heap.push (SR.Jv l ((c.length:Int)-1)),toks:=tk}:=I1.kept λb o e=>MU _ e;refine⟨s1.heap.objs.size,[s1.heap.objs.size],_,_,H1,rfl,z,qr l _ c.length,?_,λb hb=> ?_,q⟩
 .show SR.cS s1.heap.objs.size l ((c.length:Int)-1-((0:Nat):Int)) _
  rwa[show(c.length:Int)-1-((0:Nat):Int)=(c.length:Int)-1 by omega]
 .have e:b=s1.heap.objs.size:=by simpa using hb
  subst e;exact I1.fpOk (Mc _) (I1.hok.fresh (Mc _))
end
end L2
namespace L2
open PySem PySem.Spec PyProof.Rows PySem.W
end L2
set_option genInjectivity false
namespace IR
open PySem
abbrev ag:=L2.ag
inductive PV where
 | non|bl (b:Bool)|int (i:Int)|str (z:Str)|lst (xs:List PV)|tup (xs:List PV)|dK (ks:List ag) (vs:List PV)|dT (ks:List (List ag)) (vs:List PV)
instance:Inhabited PV:=⟨.non⟩
mutual
noncomputable def imm:PV->Bool
 | .non=>true| .bl _=>true| .int _=>true| .str _=>true
 | .lst _=>false
 | .tup xs=>imms xs
 | .dK _ _=>false| .dT _ _=>false
noncomputable def imms:List PV->Bool
 | []=>true
 | x::xs=>imm x&&imms xs
end
inductive Bf where
 | len|int|str|list|tuple|sorted|min|max|sum|abs|all|any|lrange|lrange2|isin (t:String)|sumv|sset|lset|trev|lvals
inductive Bm where
 | join|split|count|index|get|jrev
mutual
inductive IE where
 | con (v:PV)|var (i:Nat)|bin (op:Operator) (a b:IE)|neg (a:IE)|cmp (op:CmpOp) (a b:IE)|chn (o1 o2:CmpOp) (a b c:IE)
 | and (a b:IE)|or (a b:IE)|not (a:IE)|ite (c:IC) (a b:IE)
 | call (f:Nat) (es:uS)|bf (f:Bf) (es:uS)|mth (m:Bm) (o:IE) (es:uS)
 | lst (es:uS)|tup (es:uS)|dnew|dlit (k:ag) (e:IE)|ix (a i:IE)|sl (a:IE) (lo hi:IO)
 | lc (elt:IE) (src:IT) (ifs:GP) (caps:List Nat)|lc2 (elt:IE) (src:IT) (ifs:GP) (caps:List Nat)|lci (a:IE) (i:Nat)|never
inductive uS where
 | nil|cons (e:IE) (es:uS)
inductive IO where
 | no|yes (e:IE)
inductive IC where
 | val (e:IE)|not (c:IC)|and (c d:IC)|or (c d:IC)
inductive GP where
 | no|yes (c:IC)
inductive IT where
 | seq (e:IE)|rng (es:uS)|zip (a b:IE)|enum (a:IE)|rvd (a:IE)|never
end
mutual
inductive IS where
 | asg (i:Nat) (o:Bool) (cap:List Nat) (e:IE)|ret (cap:List Nat) (e:IE)|retN|ife (c:IC) (a b:uK)
 | forr (is:List Nat) (one:Bool) (cap:List Nat) (src:IT) (body:uK)|whil (c:IC) (body:uK)|pass|brk|cont
 | app (i:Nat) (cap:List Nat) (e:IE)|drop (e:IE)|aug (i:Nat) (op:Operator) (e:IE)|hand (m:Nat) (g:List PV->Option PV)|rais (x:Str)|never
inductive uK where
 | nil|cons (s:IS) (ss:uK)
end
inductive Bd where
 | lst|dK (ks:List ag)|dT (ks:List (List ag))
def Bd.pv:Bd->List PV->PV
 | .lst,xs=>.lst xs| .dK ks,xs=>.dK ks xs| .dT ks,xs=>.dT ks xs
section
variable{κ α:Type}[DecidableEq κ]
def KN:List κ->List α->κ->Option α
 |k' ::ks,x::xs,k=>if k' =k then some x else KN ks xs k|_,_,_=>none
def Ku:List κ->List α->κ->α->List α
 |k' ::ks,x::xs,k,y=>(if k' =k then y else x)::Ku ks xs k y|_,xs,_,_=>xs
def putL(a:List κ)(b:List α)(k:κ)(y:α):List α:=if k∈a then Ku a b k y else b++[y]
def K5(a:List κ)(k:κ):List κ:=if k∈a then a else a++[k]
end
def xG:PV->Option ag
 | .int i=>some (.inl i)| .str z=>some (.inr z)|_=>none
def Bc:List PV->Option (List ag)
 |[]=>some []|x::xs=>(xG x).bind λk=>(Bc xs).map (k::·)
inductive TV where
 | un|frz (v:PV) (n:Bool)|own (xs:List PV) (n:Bool)|owd (b:Bd) (xs:List PV) (n:Bool)
def TV.ob:TV->Option (Bd×List PV×Bool)
 | .own a n=>some (.lst,a,n)| .owd b a n=>some (b,a,n)|_=>none
abbrev En:=List TV
def TV.valD:TV->PV
 | .frz v _=>v|_=>.non
inductive RV where
 | frz (v:PV) (n:Bool)|bor (v:PV)|own (xs:List PV) (n:Bool)|owd (b:Bd) (xs:List PV) (n:Bool)
def RV.val:RV->PV
 | .frz v _=>v| .bor v=>v| .own a _=>.lst a| .owd b a _=>b.pv a
abbrev sc(v:PV):RV:=.frz v true
def RV.keep:RV->Option (PV×Bool)
 | .frz v n=>some (v,n)| .bor v=>if imm v then some (v,true)else none| .own a n=>some (.lst a,n)| .owd b a n=>some (b.pv a,n)
def sX(v:PV):RV:=if imm v then .frz v true else .bor v
def RV.its:RV->Option (List PV×Bool)
 | .frz (.lst a) n=>some (a,n)| .frz (.tup a) n=>some (a,n)| .own a n=>some (a,n)| .bor (.lst a)=>if imms a then some (a,true)else none| .bor (.tup a)=>if imms a then some (a,true)else none|_=>none
abbrev LN:Nat:=16777216
open L2 (uP ck)
def signs(z:Str):List PV:=z.cps.toList.map λc=>.str ⟨#[c]⟩
def mf(a:List PV)(n:Bool):Option RV:=if a.length<=LN then some (.own a n)else none
def pK(a:List PV)(n:Bool):Option RV:=if a.length<=LN then some (.frz (.tup a) n)else none
def v3(a b:RV):Option RV :=
 match a.val,b.val with
 | .int i,.int j=>some (sc (.int (i+j)))| .str x,.str y=>if x.length+y.length<=LN then some (sc (.str (x++y)))else none| .lst _,.lst _=>match a.its,b.its with
  |some (xs,n),some (ys,m)=>mf (xs++ys) (n&&m)|_,_=>none
 | .tup _,.tup _=>match a.its,b.its with
  |some (xs,n),some (ys,m)=>pK (xs++ys) (n&&m)|_,_=>none
 |_,_=>none
def vv(a b:RV):Option RV :=
 match a.val,b.val with
 | .int i,.int j=>some (sc (.int (i-j)))|_,_=>none
def qC(a b:RV):Option RV :=
 match a.val,b.val with
 | .int i,.int j=>if(-(2^64)<i/\i<2^64)\/(-(2^64)<j/\j<2^64)then some (sc (.int (i*j)))else if i.natAbs<2^2000/\j.natAbs<2^2000 then some (sc (.int (i*j)))else none|_,_=>none
def ff(a b:RV):Option RV :=
 match a.val,b.val with
 | .int i,.int j=>if 0<j/\j<2^200 then some (sc (.int (i/j)))else none|_,_=>none
def vz(a b:RV):Option RV :=
 match a.val,b.val with
 | .int i,.int j=>if 0<j then some (sc (.int (i%j)))else none|_,_=>none
def vy(a b:RV):Option RV :=
 match a.val,b.val with
 | .int i,.int j=>if 0<=j/\j<=1000000/\i.natAbs<2^64 then some (sc (.int (i^j.toNat)))else none|_,_=>none
def jm(a b:RV):Option RV :=
 match a.val,b.val with
 | .int i,.int j=>if 0<=j/\j<=1000000/\i.natAbs<2^64 then some (sc (.int (i*2^j.toNat)))else none|_,_=>none
def jn(a b:RV):Option RV :=
 match a.val,b.val with
 | .int i,.int j=>some (sc (.int (Builtin.bitAnd i j)))|_,_=>none
def cT(c:Operator)(a b:RV):Option RV:=match c with
 | .Add=>v3 a b| .Sub=>vv a b| .Mult=>qC a b| .FloorDiv=>ff a b| .Mod=>vz a b| .Pow=>vy a b| .LShift=>jm a b| .BitAnd=>jn a b|_=>none
def tP:PV->Bool
 | .non=>true| .bl _=>true| .int _=>true| .str _=>true|_=>false
def eqs:PV->PV->Option Bool
 | .int i,.int j=>some (decide (i=j))| .str i,.str j=>some (decide (i=j))| .bl i,.bl j=>some (decide (i=j))| .non,.non=>some true| .non,.int _=>some false| .non,.bl _=>some false| .non,.str _=>some false| .int _,.non=>some false| .bl _,.non=>some false| .str _,.non=>some false
 | .int _,.str _=>some false| .str _,.int _=>some false| .bl _,.str _=>some false| .str _,.bl _=>some false
 |_,_=>none
def Ew:PV->PV->Bool
 | .int i,.int j=>decide (i=j)| .str i,.str j=>decide (i=j)| .bl i,.bl j=>decide (i=j)| .bl b,.int j=>decide ((if b then 1 else 0:Int)=j)| .int j,.bl b=>decide (j=(if b then 1 else 0:Int))| .non,.non=>true|_,_=>false
mutual
noncomputable def my:PV->PyData
 | .non=>.none
 | .bl b=>.bool b
 | .int i=>.int i
 | .str z=>.str z
 | .lst xs=>.list (d6 xs)
 | .tup xs=>.tuple (d6 xs)
 | .dK _ _=>.dict []
 | .dT _ _=>.dict []
noncomputable def d6:List PV->List PyData
 | []=>[]
 | x::xs=>my x::d6 xs
end
mutual
noncomputable def oF:PV->PV->Bool
 | .lst xs,.lst ys=>mw xs ys
 | .tup xs,.tup ys=>mw xs ys
 | a,b=>Ew a b
noncomputable def mw:List PV->List PV->Bool
 | [],[]=>true
 | x::xs,y::ys=>oF x y&&mw xs ys
 | [],_::_=>false
 | _::_,[]=>false
end
def eG:Nat->PV->Bool
 |_,.non=>true|_,.bl _=>true|_,.int _=>true|_,.str z=>PyData.strOk z|0,.lst _=>false|0,.tup _=>false|n+1,.lst xs=>xs.all (eG n)|n+1,.tup xs=>xs.all (eG n)|_,.dK _ _=>false|_,.dT _ _=>false
def GJ(x y:PV):Option Bool:=match eqs x y with
 |some b=>some b|none=>if eG 12 x&&eG 12 y then some (oF x y)else none
def Jy(x:PV)(a:List PV):Option Bool :=
 if tP x/\a.all tP then some (a.any λy=>Ew y x)else if eG 12 x&&a.all (eG 12)then some (a.any λy=>oF y x)else none
mutual
noncomputable def Lp(f:Int->Int->Bool)(g:Nat->Nat->Bool):PV->PV->Option Bool
 | .int i,.int j=>some (f i j)
 | .tup xs,.tup ys=>FK f g xs ys
 | _,_=>none
noncomputable def FK(f:Int->Int->Bool)(g:Nat->Nat->Bool):List PV->List PV->Option Bool
 | [],ys=>some (g 0 ys.length)
 | _::_,[]=>some (g 1 0)
 | x::xs,y::ys=>if oF x y then FK f g xs ys else Lp f g x y
end
abbrev ltd:=Lp (λi j=>decide (i<j)) λa b=>decide (a<b)
def ltT(x y:PV):Option Bool:=if eG 12 x&&eG 12 y then ltd x y else none
def CY(a b:PV):Option Bool :=
 match a,b with
 | .int i,.int j=>some (decide (i<j))| .tup xs,.tup ys=>ltT (.tup xs) (.tup ys)|_,_=>none
def vh(a b:PV):Option Bool :=
 match a,b with
 | .int i,.int j=>some (decide (i<=j))|_,_=>none
def Cb(a b:PV):Option Bool :=
 match a,b with
 | .int i,.int j=>some (decide (j<i))|_,_=>none
def vi(a b:PV):Option Bool :=
 match a,b with
 | .int i,.int j=>some (decide (j<=i))|_,_=>none
def CZ(a b:PV):Option Bool :=
 match a,b with
 | .non,.non=>some true|x,.non=>some false| .bl b,.bl c=>some (b==c)|_,_=>none
def mH(a b:PV):Option Bool :=
 match a,b with
 |x,.tup ys=>(Jy x ys).map (!·)|_,_=>none
def Ca(a b:PV):Option Bool :=
 match a,b with
 | .str y,.str z=>some (Txt.contains z y)|_,_=>none
def aq(c:CmpOp)(a b:PV):Option Bool:=match c with
 | .Lt=>CY a b| .LtE=>vh a b| .Gt=>Cb a b| .GtE=>vi a b| .Eq=>GJ a b| .NotEq=>(GJ a b).map (!·)| .Is=>CZ a b| .NotIn=>mH a b| .In=>Ca a b|_=>none
def nH:PV->Option Bool
 | .non=>some false| .bl b=>some b| .int i=>some (i !=0)| .str z=>if z.length<=LN then some ((z.length:Int) !=0)else none| .lst a=>some !a.isEmpty| .tup a=>some !a.isEmpty| .dK c _=>some !c.isEmpty| .dT _ _=>none
def fD:PV->Option Nat
 | .str z=>if z.length<=LN then some z.length else none| .lst a=>some a.length| .tup a=>some a.length| .dK b _=>some b.length|_=>none
def bi(t:String):PV->Option Bool
 | .non=>if t="int"\/t="str"\/t="list"\/t="tuple"\/t="bool" then some false else none| .bl _=>if t="int"\/t="bool" then some true else if t="str"\/t="list"\/t="tuple" then some false else none| .int _=>if t="int" then some true else if t="bool"\/t="str"\/t="list"\/t="tuple" then some false else none| .str _=>if t="str" then some true else if t="bool"\/t="int"\/t="list"\/t="tuple" then some false else none| .lst _=>if t="list" then some true else if t="bool"\/t="int"\/t="str"\/t="tuple" then some false else none| .tup _=>if t="tuple" then some true else if t="bool"\/t="int"\/t="str"\/t="list" then some false else none| .dK _ _=>if t="bool"\/t="int"\/t="str"\/t="list"\/t="tuple" then some false else none| .dT _ _=>none
def iZ:List PV->Option (List Bool)
 |[]=>some []| .bl b::r=>(iZ r).map (b::·)|_::_=>none
def gG:List PV->Option (List Str)
 |[]=>some []| .str z::r=>(gG r).map (z::·)|_::_=>none
def aY:List PV->Option (List Int)
 |[]=>some []| .int i::r=>(aY r).map (i::·)|_::_=>none
def Iv(a:Str):List Str->Str
 |[]=>⟨#[]⟩|[x]=>x|x::y::r=>x++a++Iv a (y::r)
def lrng(n:Nat):List PV:=(List.range n).map λi=>.int (i:Nat)
def hX:PV->Option (Int×Int)
 | .tup c=>(aY c).bind λns=>match ns with
  |[a,b]=>some (a,b)|_=>none
 |_=>none
def hV:List PV->Option (List (Int×Int))
 |[]=>some []|x::r=>(hX x).bind λq=>(hV r).map (q::·)
def aN(q:Int×Int):PV:=.tup [.int q.1,.int q.2]
def cw(c:List (Int×Int)):List (Int×Int):=c.mergeSort λa b=>decide (SW.dz a<=SW.dz b)
def rA(a:List PV):Option RV:=(hV a).bind λps=>if ps.length<64/\ps.all (λq=>decide (0<=q.2)&&decide (q.2<1000))=true then some (.own ((cw ps).map aN) true)else none
def km(a:List PV):Option RV:=match aY a with
 |some b=>if b.length<64 then some (.own ((L2.sortI b).map PV.int) true)else none|none=>rA a
def fO:PV->Option (List Int)
 | .lst a=>(aY a).bind λns=>if ns.all (λn=>decide (0<=n)&&decide (n<8))=true then some ns else none|_=>none
def revT(a:RV):Option RV:=match a.val with
 | .tup _=>(match a.its with
  |some (xs,n)=>if xs.isEmpty then none else some (.frz (.tup xs.reverse) n)|none=>none)
 |_=>none
def strI:PV->Option RV
 | .int i=>if i.natAbs.log2<1920 then some (sc (.str (Str.ofString (toString i))))else none| .str z=>some (sc (.str z))|_=>none
def LJ:PV->Option RV
 | .dK a b=>if a.length<=LN then(aY b).map λns=>.own (ns.map PV.int) true else none|_=>none
def mR(f:Bf)(e:List RV):Option RV :=
 match f,e with
 | .len,[a]=>(fD a.val).map λn=>sc (.int (n:Nat))| .int,[a]=>match a.val with
  | .int i=>some (sc (.int i))| .bl b=>some (sc (.int (if b then 1 else 0)))|_=>none
 | .list,[a]=>match a.its with
  |some (c,n)=>some (.own c n)|none=>none
 | .tuple,[a]=>match a.its with
  |some (c,n)=>some (.frz (.tup c) n)|none=>none
 | .all,[a]=>match a.val with
  | .lst c=>(iZ c).map λbs=>sc (.bl (bs.all id))|_=>none
 | .sum,[a]=>match a.val with
  | .lst c=>(aY c).map λns=>sc (.int ns.sum)|_=>none
 | .sorted,[a]=>match a.val with
  | .lst c=>km c|_=>none
 | .sumv,[a]=>match a.val with
  | .dK _ d=>(aY d).map λns=>sc (.int ns.sum)|_=>none
 | .sset,[a]=>(fO a.val).map λns=>.own ((L2.cA ns).map PV.int) true| .lset,[a]=>(fO a.val).map λns=>sc (.int ((L2.cA ns).length:Nat))| .trev,[a]=>revT a| .lvals,[a]=>LJ a.val| .str,[a]=>strI a.val| .isin t,[a]=>(bi t a.val).map λb=>sc (.bl b)| .min,[a,b]=>match a.val,b.val with
  | .int i,.int j=>some (sc (.int (if j<i then j else i)))|_,_=>none
 | .max,[a,b]=>match a.val,b.val with
  | .int i,.int j=>some (sc (.int (if j>i then j else i)))|_,_=>none
 | .lrange,[a]=>match a.val with
  | .int i=>if 0<=i/\i<=1000 then some (.own (lrng i.toNat) true)else none|_=>none
 | .lrange2,[a,b]=>match a.val,b.val with
  | .int i,.int j=>if -1000<=i/\j<=1000/\i<=j then some (.own ((List.range (j-i).toNat).map λk=>.int (i+(k:Nat))) true)else none|_,_=>none
 |_,_=>none
def Bv(z y:Str):Option Nat:=(Builtin.Str.occurrences z y 0 z.length 1).head?
def BP(m:Bm)(o:RV)(c:List RV):Option RV :=
 match m,o.val,c with
 | .join,.str sep,[a]=>match a.val with
  | .lst b=>(gG b).bind λys=>if(ys.map (·.length)).sum+ys.length*sep.length<=LN then some (sc (.str (Iv sep ys)))else none| .tup b=>(gG b).bind λys=>if(ys.map (·.length)).sum+ys.length*sep.length<=LN then some (sc (.str (Iv sep ys)))else none|_=>none
 | .jrev,.str sep,[a]=>match a.val with
  | .str z=>if sep.cps= #[]/\0<z.length/\z.length<=LN then some (sc (.str ⟨z.cps.toList.reverse.toArray⟩))else none|_=>none
 | .count,.str z,[a]=>match a.val with
  | .str y=>some (sc (.int (Txt.count z y)))|_=>none
 | .index,.str z,[a]=>match a.val with
  | .str y=>(Bv z y).map λj=>sc (.int (j:Nat))|_=>none
 | .get,.dK ks vs,[a,d]=>(xG a.val).bind λk=>match KN ks vs k with
  |some e=>(match o with
   | .frz _ n=>some (.frz e (n||imm e))
   | .bor _=>some (sX e)|_=>none)
  |none=>some d
 |_,_,_=>none
def ixK(a:RV)(k:Int):Option RV :=
 match a with
 | .frz (.lst b) n=>(ck b k).map λe=>.frz e (n||imm e)
 | .frz (.tup b) n=>(ck b k).map λe=>.frz e (n||imm e)
 | .own b n=>(ck b k).map λe=>.frz e (n||imm e)
 | .bor (.lst b)=>(ck b k).map sX| .bor (.tup b)=>(ck b k).map sX| .frz (.str z) _=>if z.length<=LN then(ck z.cps.toList k).map λc=>sc (.str ⟨#[c]⟩)else none|_=>none
def index(a i:RV):Option RV:=match i.val with
 | .int k=>ixK a k|_=>none
def cut{c:Type}(a:List c)(b d:Option Int):List c:=(a.drop (HT.bZ a.length 0 b)).take (HT.bZ a.length a.length d-HT.bZ a.length 0 b)
def slice(a:RV)(b c:Option Int):Option RV :=
 match a.val with
 | .str z=>if z.length<=LN then(match b,c with
  |none,some k=>if 0<=k then some (sc (.str ⟨(z.cps.toList.take k.toNat).toArray⟩))else none|some k,none=>if 0<=k then some (sc (.str ⟨(z.cps.toList.drop k.toNat).toArray⟩))else none|_,_=>none)else none
 | .lst _=>match a.its with
  |some (xs,n)=>some (.own (cut xs b c) (n||imms xs))
  |none=>none
 | .tup _=>match a.its with
  |some (xs,n)=>if HT.bZ xs.length 0 b=0/\HT.bZ xs.length xs.length c=xs.length then some (.frz (.tup xs) n)else some (.frz (.tup (cut xs b c)) n)|none=>none
 |_=>none
def keeps:List RV->Option (List PV×Bool)
 |[]=>some ([],true)|r::rs=>r.keep.bind λ(v,n)=>(keeps rs).map λ(vs,m)=>(v::vs,n&&m)
def lj(a:En)(i:Nat):Option RV :=
 match a[i]? with
 |some (.frz v n)=>some (.frz v n)|some (.own xs _)=>some (.bor (.lst xs))|some (.owd b xs _)=>some (.bor (b.pv xs))|_=>none
def y9:Option RV->Option (Option Int)
 |none=>some none|some r=>match r.val with
  | .int i=>some (some i)|_=>none
def bg(f:PV->Option (Option (PV×Bool))):List PV->Option (List PV×Bool)
 |[]=>some ([],true)|x::xs=>(f x).bind λr=>(bg f xs).map λ(vs,m)=>match r with
  |none=>(vs,m)|some (v,n)=>(v::vs,n&&m)
def sA:PV->Option (PV×PV)
 | .tup [a,b]=>some (a,b)|_=>none
def o5:List RV->Option (List PV)
 |[a]=>match a.val with
  | .int j=>if -(2^62)<=j/\j<2^62 then some ((List.range j.toNat).map λi=>.int (0+(i:Nat)))else none|_=>none
 |[a,b]=>match a.val,b.val with
  | .int i,.int j=>if -(2^62)<=i/\i<2^62/\ -(2^62)<=j/\j<2^62 then some ((List.range (j-i).toNat).map λk=>.int (i+(k:Nat)))else none|_,_=>none
 |[a,b,c]=>match a.val,b.val,c.val with
  | .int i,.int j,.int k=>if k≠0/\k.natAbs<1073741824/\Builtin.Range.small i j k=true then some ((List.range (Builtin.Range.rangeSize i j k).toNat).map λm=>.int (i+(m:Nat)*k))else none|_,_,_=>none
 |_=>none
def Eg:PV->Option Int
 | .int i=>some i|_=>none
def j7:PV->Option Bool
 | .bl b=>some b|_=>none
def ku(x:RV):Option (List PV×Bool×Bool):=match x with
  | .frz (.str z) _=>some (signs z,true,false)| .bor (.lst xs)=>if imms xs then some (xs,true,true)else none| .bor (.tup xs)=>if imms xs then some (xs,true,true)else none| .bor _=>none|r=>r.its.map λ(xs,n)=>(xs,n,false)
def wm(x y:PV):PV:=.tup [x,y]
def iD(i:Nat)(x:PV):PV:=.tup [.int (i:Nat),x]
def BQ:RV->Option (List PV×Bool)
 | .frz (.lst a) n=>some (a,n)| .own a n=>some (a,n)|_=>none
def Jw:RV->Option (List PV×Bool)
 | .frz (.tup xs) n=>some (xs,n)|_=>none
def zk(x y:RV):Option (List PV×Bool) :=
 match BQ x,BQ y with
 |some (xs,n),some (ys,m)=>if xs.length=ys.length then some (List.zipWith wm xs ys,n&&m)else none|_,_=>none
def tR(x:RV):Option (List PV×Bool) :=
 match x with
 | .frz (.str z) _=>some (List.zipWith iD (List.range z.length) (signs z),true)| .frz (.tup xs) n=>some (List.zipWith iD (List.range xs.length) xs,n)|x=>match BQ x with
  |some (xs,n)=>some (List.zipWith iD (List.range xs.length) xs,n)|none=>none
def me(t:Int):List ag->List PV->Option (List Int)
 |[],[]=>some []| .inl k::ks,.int v::vs=>(me t ks vs).map λr=>if Builtin.bitAnd k t=0 then v::r else r|_,_=>none
def yu(r:RV)(t:Option TV):Option RV:=match r,t with
 | .frz (.dK ks vs) _,some (.frz (.int t) _)=>if ks.length<=LN then(me t ks vs).map λns=>.own (ns.map PV.int) true else none|_,_=>none
section
variable(cd:Nat->List PV->Option PV)
def oh:PV->RV
 | .lst a=>.own a true|v=>.frz v true
mutual
noncomputable def aS:IE->En->Option RV
 | .con v,_=>some (sc v)
 | .var i,τ=>lj τ i
 | .bin op a b,τ=>(aS a τ).bind fun x=>(aS b τ).bind fun y=>cT op x y
 | .neg a,τ=>(aS a τ).bind fun x=>(Eg x.val).map fun i=>sc (.int (-i))
 | .cmp op a b,τ=>(aS a τ).bind fun x=>(aS b τ).bind fun y=>(aq op x.val y.val).map fun r=>sc (.bl r)
 | .chn o1 o2 a b c,τ=>(aS a τ).bind fun x=>(aS b τ).bind fun y=>(aq o1 x.val y.val).bind fun r=>if r then(aS c τ).bind fun z=>(aq o2 y.val z.val).map fun r=>sc (.bl r)else some (sc (.bl false))
 | .and a b,τ=>(aS a τ).bind fun x=>(j7 x.val).bind fun t=>if t then aS b τ else some (sc (.bl false))
 | .or a b,τ=>(aS a τ).bind fun x=>(j7 x.val).bind fun t=>if t then some (sc (.bl true))else aS b τ
 | .not a,τ=>(aS a τ).bind fun x=>(j7 x.val).map fun b=>sc (.bl !b)
 | .ite c a b,τ=>(d0 c τ).bind fun r=>if r then aS a τ else aS b τ
 | .call f es,τ=>(dG es τ).bind fun rs=>(cd f (rs.map RV.val)).map oh
 | .bf f es,τ=>(dG es τ).bind fun rs=>mR f rs
 | .mth m o es,τ=>(aS o τ).bind fun x=>(dG es τ).bind fun rs=>BP m x rs
 | .lst es,τ=>(dG es τ).bind fun rs=>(keeps rs).bind fun(vs,n)=>mf vs n
 | .tup es,τ=>(dG es τ).bind fun rs=>(keeps rs).bind fun(vs,n)=>pK vs n
 | .dnew,_=>some (.owd (.dK []) [] true)
 | .dlit k e,τ=>(aS e τ).bind fun r=>r.keep.bind fun(v,_)=>if imm v then some (.owd (.dK [k]) [v] true)else none
 | .ix a i,τ=>(aS a τ).bind fun x=>(aS i τ).bind fun y=>index x y
 | .sl a lo hi,τ=>(aS a τ).bind fun x=>(JE lo τ).bind fun l=>(JE hi τ).bind fun h=>(y9 l).bind fun l' =>(y9 h).bind fun h' =>slice x l' h'
 | .lc elt src ifs caps,τ=>(qJ src τ).bind fun(xs,n,_)=>if xs.length<=LN then(bg (fun x=>(jc ifs (.frz x (n||imm x)::caps.map fun i=>τ.getD i .un)).bind fun b =>
   if b then(aS elt (.frz x (n||imm x)::caps.map fun i=>τ.getD i .un)).bind fun r=>r.keep.map some else some none) xs).map fun(vs,m)=>.own vs m else none
 | .lc2 elt src ifs caps,τ=>(qJ src τ).bind fun(xs,n,_)=>if xs.length<=LN then(bg (fun x=>(sA x).bind fun(a,b)=>(jc ifs (.frz a (n||imm a)::.frz b (n||imm b)::caps.map fun i=>τ.getD i .un)).bind fun t =>
   if t then(aS elt (.frz a (n||imm a)::.frz b (n||imm b)::caps.map fun i=>τ.getD i .un)).bind fun r=>r.keep.map some else some none) xs).map fun(vs,m)=>.own vs m else none
 | .lci a i,τ=>(aS a τ).bind fun x=>yu x τ[i]?
 | .never,_=>none
noncomputable def dG:uS->En->Option (List RV)
 | .nil,_=>some []
 | .cons e es,τ=>(aS e τ).bind fun x=>(dG es τ).map (x::·)
noncomputable def JE:IO->En->Option (Option RV)
 | .no,_=>some none
 | .yes e,τ=>(aS e τ).map some
noncomputable def d0:IC->En->Option Bool
 | .val e,τ=>(aS e τ).bind fun x=>nH x.val
 | .not c,τ=>(d0 c τ).map (!·)
 | .and c d,τ=>(d0 c τ).bind fun r=>if r then d0 d τ else some false
 | .or c d,τ=>(d0 c τ).bind fun r=>if r then some true else d0 d τ
noncomputable def jc:GP->En->Option Bool
 | .no,_=>some true
 | .yes c,τ=>d0 c τ
noncomputable def qJ:IT->En->Option (List PV×Bool×Bool)
 | .seq e,τ=>(aS e τ).bind ku
 | .rng es,τ=>(dG es τ).bind fun rs=>(o5 rs).map fun xs=>(xs,true,false)
 | .zip a b,τ=>(aS a τ).bind fun x=>(aS b τ).bind fun y=>(zk x y).map fun(xs,n)=>(xs,n,false)
 | .enum a,τ=>(aS a τ).bind fun x=>(tR x).map fun(xs,n)=>(xs,n,false)
 | .rvd a,τ=>(aS a τ).bind fun x=>(Jw x).map fun(xs,n)=>(xs.reverse,n,false)
 | .never,_=>none
end
inductive Fl where
 | nx (τ:En)|bk (τ:En)|ct (τ:En)|rt (v:PV)
def gF(f:Fl)(k:En->Option Fl):Option Fl:=match f with
 | .nx a=>k a| .bk a=>some (.bk a)| .ct a=>some (.ct a)| .rt v=>some (.rt v)
def pi(a:En)(i:Nat):En :=
 match a[i]? with
 |some (.own xs n)=>a.set i (.frz (.lst xs) n)|some (.owd b xs n)=>a.set i (.frz (b.pv xs) n)|_=>a
def bj(a:List Nat)(b:En):En:=a.foldl pi b
def jV(o:Bool)(i:Nat)(r:RV)(a:En):Option En :=
 match o,r with
 |true,.own xs n=>some (a.set i (.own xs n))|true,.owd b xs n=>some (a.set i (.owd b xs n))|_,r=>r.keep.map λ(v,n)=>a.set i (.frz v n)
def du(n:Bool):List Nat->List PV->En->Option En
 |[],[],τ=>some τ|i::is,x::xs,τ=>du n is xs (τ.set i (.frz x (n||imm x)))
 |_,_,_=>none
def oy(c:List Nat)(a n:Bool)(x:PV)(b:En):Option En :=
 if a then du n c [x] b else match x with
  | .tup d=>du n c d b|_=>none
def setU(c:List Nat)(n:Bool)(x:PV)(b:En):Option En:=match x with
 | .tup a=>du n c a b| .lst a=>du n c a b|_=>none
def ln(b:PV->En->Option En)(body:En->Option Fl):List PV->En->Option Fl
 |[],τ=>some (.nx τ)|x::xs,τ=>(b x τ).bind λτ1=>(body τ1).bind λf=>match f with
  | .nx a=>ln b body xs a| .ct a=>ln b body xs a| .bk a=>some (.nx a)| .rt v=>some (.rt v)
def C9(c:En->Option Bool)(body:En->Option Fl):Nat->En->Option Fl
 |0,_=>none|k+1,τ=>(c τ).bind λb=>if b then(body τ).bind λf=>(match f with
  | .nx a=>C9 c body k a| .ct a=>C9 c body k a| .bk a=>some (.nx a)| .rt v=>some (.rt v))else some (.nx τ)
variable(fu:Nat)
mutual
noncomputable def fJ:IS->En->Option Fl
 | .asg i o cap e,τ=>let τ1:=bj cap τ;(aS cd e τ1).bind fun r=>(jV o i r τ1).map .nx
 | .ret cap e,τ=>let τ1:=bj cap τ;(aS cd e τ1).bind fun r=>r.keep.bind fun(v,n)=>if n then some (.rt v)else none
 | .retN,_=>some (.rt .non)
 | .ife c a b,τ=>(d0 cd c τ).bind fun r=>if r then ar a τ else ar b τ
 | .forr is one cap src body,τ=>let τ1:=bj cap τ;(qJ cd src τ1).bind fun(xs,n,b)=>if b then none else ln (oy is one n) (fun τ=>ar body τ) xs τ1
 | .whil c body,τ=>C9 (fun τ=>d0 cd c τ) (fun τ=>ar body τ) fu τ
 | .pass,τ=>some (.nx τ)
 | .brk,τ=>some (.bk τ)
 | .cont,τ=>some (.ct τ)
 | .app i cap e,τ=>let τ1:=bj cap τ;(aS cd e τ1).bind fun r=>r.keep.bind fun(v,m)=>match τ1[i]? with
  | some (.own xs n)=>if xs.length<LN then some (.nx (τ1.set i (.own (xs++[v]) (n&&m))))else none
  | _=>none
 | .drop e,τ=>(aS cd e τ).map fun _=>.nx τ
 | .aug i op e,τ=>(aS cd e τ).bind fun r=>match τ[i]?,r.val,op with
  | some (.frz (.int x) _),.int y,.Add=>some (.nx (τ.set i (.frz (.int (x+y)) true)))
  | some (.frz (.int x) _),.int y,.Sub=>some (.nx (τ.set i (.frz (.int (x-y)) true)))
  | _,_,_=>none
 | .hand m g,τ=>(g ((τ.take m).map TV.valD)).map .rt
 | .rais _,_=>none
 | .never,_=>none
noncomputable def ar:uK->En->Option Fl
 | .nil,τ=>some (.nx τ)
 | .cons s ss,τ=>(fJ s τ).bind fun f=>gF f (fun τ1=>ar ss τ1)
end
end
structure FD where
 nn:Nat
 np:Nat
 body:uK
def entry(d:FD)(a:List PV):En:=a.map (λv=>.frz v (imm v))++List.replicate (d.nn-a.length) .un
def bo:Option Fl->Option PV
 |some (.rt v)=>some v|some (.nx _)=>some .non|_=>none
def aC(P:Nat->Option FD):Nat->Nat->List PV->Option PV
 |0,_,_=>none|k+1,f,vs=>(P f).bind λd=>if vs.length=d.np then bo (ar (aC P k) 1000000 d.body (entry d vs))else none
section
set_option autoImplicit true
set_option relaxedAutoImplicit true
variable{cd:Nat->List PV->Option PV}{fu:Nat}{τ:En}
theorem dk:aS cd (.con v) τ=(some (sc v)):=rfl
theorem cq:aS cd (.var i) τ=(lj τ i):=rfl
theorem dL:aS cd (.bin op a b) τ=((aS cd a τ).bind λx=>(aS cd b τ).bind λy=>cT op x y):=rfl
theorem dc:aS cd (.neg a) τ=((aS cd a τ).bind λx=>(Eg x.val).map λi=>sc (.int (-i))):=rfl
theorem dN:aS cd (.cmp op a b) τ=((aS cd a τ).bind λx=>(aS cd b τ).bind λy=>(aq op x.val y.val).map λr=>sc (.bl r)):=rfl
theorem dm:aS cd (.chn o1 o2 a b c) τ=((aS cd a τ).bind λx=>(aS cd b τ).bind λy=>(aq o1 x.val y.val).bind λr=>if r then(aS cd c τ).bind λz=>(aq o2 y.val z.val).map λr=>sc (.bl r)else some (sc (.bl false))):=rfl
theorem dq:aS cd (.and a b) τ=((aS cd a τ).bind λx=>(j7 x.val).bind λt=>if t then aS cd b τ else some (sc (.bl false))):=rfl
theorem eB:aS cd (.or a b) τ=((aS cd a τ).bind λx=>(j7 x.val).bind λt=>if t then some (sc (.bl true))else aS cd b τ):=rfl
theorem dZ:aS cd (.not a) τ=((aS cd a τ).bind λx=>(j7 x.val).map λb=>sc (.bl !b)):=rfl
theorem dh:aS cd (.ite c a b) τ=((d0 cd c τ).bind λr=>if r then aS cd a τ else aS cd b τ):=rfl
theorem dU:aS cd (.call f es) τ=((dG cd es τ).bind λrs=>(cd f (rs.map RV.val)).map oh):=rfl
theorem dO:aS cd (.bf f es) τ=((dG cd es τ).bind λrs=>mR f rs):=rfl
theorem de:aS cd (.mth m o es) τ=((aS cd o τ).bind λx=>(dG cd es τ).bind λrs=>BP m x rs):=rfl
theorem dS:aS cd (.lst es) τ=((dG cd es τ).bind λrs=>(keeps rs).bind λ(vs,n)=>mf vs n):=rfl
theorem dQ:aS cd (.tup es) τ=((dG cd es τ).bind λrs=>(keeps rs).bind λ(vs,n)=>pK vs n):=rfl
theorem eF:aS cd (.dnew) τ=(some (.owd (.dK []) [] true)):=rfl
theorem di:aS cd (.dlit k e) τ=((aS cd e τ).bind λr=>r.keep.bind λ(v,_)=>if imm v then some (.owd (.dK [k]) [v] true)else none):=rfl
theorem cZ:aS cd (.ix a i) τ=((aS cd a τ).bind λx=>(aS cd i τ).bind λy=>index x y):=rfl
theorem dR:aS cd (.sl a lo hi) τ=((aS cd a τ).bind λx=>(JE cd lo τ).bind λl=>(JE cd hi τ).bind λh=>(y9 l).bind λl' =>(y9 h).bind λh' =>slice x l' h'):=rfl
theorem dg:aS cd (.lc elt src ifs caps) τ=((qJ cd src τ).bind λ(xs,n,_)=>if xs.length<=LN then(bg (λx=>(jc cd ifs (.frz x (n||imm x)::caps.map λi=>τ.getD i .un)).bind λb =>
   if b then(aS cd elt (.frz x (n||imm x)::caps.map λi=>τ.getD i .un)).bind λr=>r.keep.map some else some none) xs).map λ(vs,m)=>.own vs m else none):=rfl
theorem eE:aS cd (.lc2 elt src ifs caps) τ=((qJ cd src τ).bind λ(xs,n,_)=>if xs.length<=LN then(bg (λx=>(sA x).bind λ(a,b)=>(jc cd ifs (.frz a (n||imm a)::.frz b (n||imm b)::caps.map λi=>τ.getD i .un)).bind λt =>
   if t then(aS cd elt (.frz a (n||imm a)::.frz b (n||imm b)::caps.map λi=>τ.getD i .un)).bind λr=>r.keep.map some else some none) xs).map λ(vs,m)=>.own vs m else none):=rfl
theorem df:aS cd (.lci a i) τ=((aS cd a τ).bind λx=>yu x τ[i]?):=rfl
theorem eD:aS cd (.never) τ=(none):=rfl
theorem Fu:dG cd (.nil) τ=(some []):=rfl
theorem zo:dG cd (.cons e es) τ=((aS cd e τ).bind λx=>(dG cd es τ).map (x::·)):=rfl
theorem KJ:JE cd (.no) τ=(some none):=rfl
theorem KI:JE cd (.yes e) τ=((aS cd e τ).map some):=rfl
theorem ze:d0 cd (.val e) τ=((aS cd e τ).bind λx=>nH x.val):=rfl
theorem zq:d0 cd (.not c) τ=((d0 cd c τ).map (!·)):=rfl
theorem zf:d0 cd (.and c d) τ=((d0 cd c τ).bind λr=>if r then d0 cd d τ else some false):=rfl
theorem zp:d0 cd (.or c d) τ=((d0 cd c τ).bind λr=>if r then some true else d0 cd d τ):=rfl
theorem GS:jc cd (.no) τ=(some true):=rfl
theorem GR:jc cd (.yes c) τ=(d0 cd c τ):=rfl
theorem DH:qJ cd (.seq e) τ=((aS cd e τ).bind ku):=rfl
theorem DJ:qJ cd (.rng es) τ=((dG cd es τ).bind λrs=>(o5 rs).map λxs=>(xs,true,false)):=rfl
theorem DG:qJ cd (.zip a b) τ=((aS cd a τ).bind λx=>(aS cd b τ).bind λy=>(zk x y).map λ(xs,n)=>(xs,n,false)):=rfl
theorem DK:qJ cd (.enum a) τ=((aS cd a τ).bind λx=>(tR x).map λ(xs,n)=>(xs,n,false)):=rfl
theorem DI:qJ cd (.rvd a) τ=((aS cd a τ).bind λx=>(Jw x).map λ(xs,n)=>(xs.reverse,n,false)):=rfl
theorem Ft:qJ cd (.never) τ=(none):=rfl
theorem jH:fJ cd fu (.asg i o cap e) τ=(let a:=bj cap τ;(aS cd e a).bind λr=>(jV o i r a).map .nx):=rfl
theorem i6:fJ cd fu (.ret cap e) τ=(let a:=bj cap τ;(aS cd e a).bind λr=>r.keep.bind λ(v,n)=>if n then some (.rt v)else none):=rfl
theorem i5:fJ cd fu (.retN) τ=(some (.rt .non)):=rfl
theorem jA:fJ cd fu (.ife c a b) τ=((d0 cd c τ).bind λr=>if r then ar cd fu a τ else ar cd fu b τ):=rfl
theorem jC:fJ cd fu (.forr is one cap src body) τ=(let a:=bj cap τ;(qJ cd src a).bind λ(xs,n,b)=>if b then none else ln (oy is one n) (λτ=>ar cd fu body τ) xs a):=rfl
theorem iz:fJ cd fu (.whil c body) τ=(C9 (λτ=>d0 cd c τ) (λτ=>ar cd fu body τ) fu τ):=rfl
theorem i8:fJ cd fu (.pass) τ=(some (.nx τ)):=rfl
theorem jF:fJ cd fu (.brk) τ=(some (.bk τ)):=rfl
theorem jE:fJ cd fu (.cont) τ=(some (.ct τ)):=rfl
theorem jI:fJ cd fu (.app i cap e) τ=(let a:=bj cap τ;(aS cd e a).bind λr=>r.keep.bind λ(v,m)=>match a[i]? with
  |some (.own xs n)=>if xs.length<LN then some (.nx (a.set i (.own (xs++[v]) (n&&m))))else none|_=>none):=rfl
theorem jD:fJ cd fu (.drop e) τ=((aS cd e τ).map λ_=>.nx τ):=rfl
theorem jG:fJ cd fu (.aug i op e) τ=((aS cd e τ).bind λr=>match τ[i]?,r.val,op with
  |some (.frz (.int x) _),.int y,.Add=>some (.nx (τ.set i (.frz (.int (x+y)) true)))|some (.frz (.int x) _),.int y,.Sub=>some (.nx (τ.set i (.frz (.int (x-y)) true)))|_,_,_=>none):=rfl
theorem jB:fJ cd fu (.hand m g) τ=((g ((τ.take m).map TV.valD)).map .rt):=rfl
theorem i7:fJ cd fu (.rais w1) τ=(none):=rfl
theorem i9:fJ cd fu (.never) τ=(none):=rfl
theorem zm:ar cd fu (.nil) τ=(some (.nx τ)):=rfl
theorem zn:ar cd fu (.cons s ss) τ=((fJ cd fu s τ).bind λf=>gF f (λτ1=>ar cd fu ss τ1)):=rfl
end
end IR
namespace IR
open PySem PySem.Spec PyProof.Rows L2
def del(H:Hp)(p:Addr):Hp:=λb=>if b=p then none else H b
def aV(H:Hp)(O:List Addr):Hp:=λb=>if b∈O then none else H b
theorem fW(s:aD H a):aD (del H p) (del a p):=λb o e=>by
 unfold del at e ⊢
 split at e;cases e
 .rename_i h
  rw[MY h];exact s b o e
theorem aO(s:aD H a):aD (aV H O) (aV a O):=λb o e=>by
 unfold aV at e ⊢
 split at e;cases e
 .rename_i h
  rw[MY h];exact s b o e
set_option tactic.hygienic false
theorem br:aD (del H p) H:=λb o e=>by
 unfold del at e
 split at e;cases e;exact e
theorem aQ{O:List Addr}:aD (aV H O) H:=λb o e=>by
 unfold aV at e
 split at e;cases e;exact e
set_option tactic.hygienic true in
theorem xM(h:∀b∈a,b∈O):aD (aV H O) (aV H a):=λb o e=>by
 unfold aV at e ⊢
 split at e;cases e
 .rename_i n
  rwa[MY λz=>n (h b z)]
theorem Ep:aV H []=H:=by funext b;unfold aV;simp
section
variable(K:W.Frag)(Hi:Hp)
set_option tactic.hygienic true
mutual
noncomputable def Rp(n:Bool):PV->Hp->V->Prop
 | .non,_,u=>u=.non
 | .bl b,_,u=>u=.bl b
 | .int i,_,u=>u=.int i
 | .str z,_,u=>u=.str z
 | .lst xs,H,u=>∃p us,u=.ref p/\(n=true->Hi p=none/\H p=some (.lst us))/\bH K H p us/\aG n xs (del H p) us
 | .tup xs,H,u=>∃p us,u=.ref p/\bT K H p us/\aG n xs H us
 | .dK ks vs,H,u=>∃p us,u=.ref p/\(n=true->Hi p=none)/\H p=some (.dK (ks.zip us))/\ks.length=us.length/\aG n vs (del H p) us
 | .dT ks vs,H,u=>∃p us,u=.ref p/\(n=true->Hi p=none)/\H p=some (.dT (ks.zip us))/\ks.length=us.length/\aG n vs (del H p) us
noncomputable def aG(n:Bool):List PV->Hp->List V->Prop
 | [],_,us=>us=[]
 | x::xs,H,us=>∃u r,us=u::r/\Rp n x H u/\aG n xs H r
end
end
section
variable{K:W.Frag}{Hi:Hp}
set_option tactic.hygienic true
mutual
theorem Rp.mono{n:Bool}:∀{v:PV}{H H' :Hp}{u:V},aD H H' ->Rp K Hi n v H u->Rp K Hi n v H' u
 | .non,_,_,_,_,h=>h
 | .bl _,_,_,_,_,h=>h
 | .int _,_,_,_,_,h=>h
 | .str _,_,_,_,_,h=>h
 | .lst xs,_,_,_,s,h=>by
  show∃_,_;obtain⟨p,us,e,q,l,r⟩:=h;exact⟨p,us,e,fun z=>⟨(q z).1,s _ _ (q z).2⟩,s.seq l,aG.mono (fW s) r⟩
 | .tup xs,_,_,_,s,h=>by
  show∃_,_;obtain⟨p,us,e,l,r⟩:=h;exact⟨p,us,e,s.tup l,aG.mono s r⟩
 | .dK ks vs,_,_,_,s,h=>by
  show∃_,_;obtain⟨p,us,e,q,l,z,r⟩:=h;exact⟨p,us,e,q,s _ _ l,z,aG.mono (fW s) r⟩
 | .dT ks vs,_,_,_,s,h=>by
  show∃_,_;obtain⟨p,us,e,q,l,z,r⟩:=h;exact⟨p,us,e,q,s _ _ l,z,aG.mono (fW s) r⟩
theorem aG.mono{n:Bool}:∀{xs:List PV}{H H' :Hp}{us:List V},aD H H' ->aG K Hi n xs H us->aG K Hi n xs H' us
 | [],_,_,_,_,h=>h
 | x::xs,_,_,_,s,h=>by
  show∃_,_;obtain⟨u,r,e,a,b⟩:=h;exact⟨u,r,e,Rp.mono s a,aG.mono s b⟩
end
mutual
theorem Rp.weak{n:Bool}:∀{v:PV}{H:Hp}{u:V},Rp K Hi n v H u->Rp K Hi false v H u
 | .non,_,_,h=>h
 | .bl _,_,_,h=>h
 | .int _,_,_,h=>h
 | .str _,_,_,h=>h
 | .lst xs,_,_,h=>by
  show∃_,_;obtain⟨p,us,e,q,l,r⟩:=h;exact⟨p,us,e,(fun z=>absurd z MZ),l,aG.weak r⟩
 | .tup xs,_,_,h=>by
  show∃_,_;obtain⟨p,us,e,l,r⟩:=h;exact⟨p,us,e,l,aG.weak r⟩
 | .dK ks vs,_,_,h=>by
  show∃_,_;obtain⟨p,us,e,q,l,z,r⟩:=h;exact⟨p,us,e,(fun z=>absurd z MZ),l,z,aG.weak r⟩
 | .dT ks vs,_,_,h=>by
  show∃_,_;obtain⟨p,us,e,q,l,z,r⟩:=h;exact⟨p,us,e,(fun z=>absurd z MZ),l,z,aG.weak r⟩
theorem aG.weak{n:Bool}:∀{xs:List PV}{H:Hp}{us:List V},aG K Hi n xs H us->aG K Hi false xs H us
 | [],_,_,h=>h
 | x::xs,_,_,h=>by
  show∃_,_;obtain⟨u,r,e,a,b⟩:=h;exact⟨u,r,e,Rp.weak a,aG.weak b⟩
end
set_option tactic.hygienic false
theorem Rp.low(h:Rp K Hi n v H u)(e:m=true->n=true):Rp K Hi m v H u:=by
 cases n with
 |true=>cases m with
  |true=>exact h|false=>exact h.weak
 |false=>cases m with
  |true=>cases e rfl|false=>exact h
theorem aG.low(h:aG K Hi n v H u)(e:m=true->n=true):aG K Hi m v H u:=by
 cases n with
 |true=>cases m with
  |true=>exact h|false=>exact h.weak
 |false=>cases m with
  |true=>cases e rfl|false=>exact h
set_option tactic.hygienic true
mutual
theorem Rp.entry{Hj:Hp}{n:Bool}(k:n=true->∀p,Hi p=none->Hj p=none):∀{v:PV}{H:Hp}{u:V},Rp K Hi n v H u->Rp K Hj n v H u
 | .non,_,_,h=>h
 | .bl _,_,_,h=>h
 | .int _,_,_,h=>h
 | .str _,_,_,h=>h
 | .lst xs,_,_,h=>by
  show∃_,_;obtain⟨p,us,e,q,l,r⟩:=h;exact⟨p,us,e,fun z=>⟨k z _ (q z).1,(q z).2⟩,l,aG.entry k r⟩
 | .tup xs,_,_,h=>by
  show∃_,_;obtain⟨p,us,e,l,r⟩:=h;exact⟨p,us,e,l,aG.entry k r⟩
 | .dK ks vs,_,_,h=>by
  show∃_,_;obtain⟨p,us,e,q,l,z,r⟩:=h;exact⟨p,us,e,fun z=>k z _ (q z),l,z,aG.entry k r⟩
 | .dT ks vs,_,_,h=>by
  show∃_,_;obtain⟨p,us,e,q,l,z,r⟩:=h;exact⟨p,us,e,fun z=>k z _ (q z),l,z,aG.entry k r⟩
theorem aG.entry{Hj:Hp}{n:Bool}(k:n=true->∀p,Hi p=none->Hj p=none):∀{xs:List PV}{H:Hp}{us:List V},aG K Hi n xs H us->aG K Hj n xs H us
 | [],_,_,h=>h
 | x::xs,_,_,h=>by
  show∃_,_;obtain⟨u,r,e,a,b⟩:=h;exact⟨u,r,e,Rp.entry k a,aG.entry k b⟩
end
def wA(H G:Hp):Prop:=(∀b a,H b=some (.tup a)->G b=some (.tup a))/\∀b o a,H b=some (.frz o (.tup a))->G b=some (.frz o (.tup a))
set_option tactic.hygienic false
theorem wA.at{G:Hp}(t:wA H G)(h:bT K H p a):bT K G p a:=by
 rcases h with(h|⟨o,h⟩)|h
 .exact .inl (.inl (t.1 _ _ h))
 .exact .inl (.inr ⟨o,t.2 _ _ _ h⟩)
 .exact .inr h
set_option tactic.hygienic true
mutual
theorem Rp.imm{n m:Bool}:∀{v:PV}{H G:Hp}{u:V},imm v=true->wA H G->Rp K Hi n v H u->Rp K Hi m v G u
 | .non,_,_,_,_,_,h=>h
 | .bl _,_,_,_,_,_,h=>h
 | .int _,_,_,_,_,_,h=>h
 | .str _,_,_,_,_,_,h=>h
 | .lst xs,_,_,_,i,_,h=>by unfold IR.imm at i;cases i
 | .tup xs,_,_,_,i,t,h=>by
  show∃_,_;unfold IR.imm at i;obtain⟨p,us,e,l,r⟩:=h;exact⟨p,us,e,t.at l,aG.imm i t r⟩
 | .dK ks vs,_,_,_,i,_,h=>by unfold IR.imm at i;cases i
 | .dT ks vs,_,_,_,i,_,h=>by unfold IR.imm at i;cases i
theorem aG.imm{n m:Bool}:∀{xs:List PV}{H G:Hp}{us:List V},imms xs=true->wA H G->aG K Hi n xs H us->aG K Hi m xs G us
 | [],_,_,_,_,_,h=>h
 | x::xs,_,_,_,i,t,h=>by
  show∃_,_;unfold imms at i;rw[Mb]at i;obtain⟨u,r,e,a,b⟩:=h;exact⟨u,r,e,Rp.imm i.1 t a,aG.imm i.2 t b⟩
end
set_option tactic.hygienic false
theorem Rp.up(h:Rp K Hi n v H u):Rp K Hi (n||IR.imm v) v H u:=by
 cases e:IR.imm v with
 |true=>exact Rp.imm e ⟨λ_ _ e=>e,λ_ _ _ e=>e⟩ h|false=>rwa[Bool.or_false]
theorem aG.up(h:aG K Hi n v H u):aG K Hi (n||IR.imms v) v H u:=by
 cases e:IR.imms v with
 |true=>exact aG.imm e ⟨λ_ _ e=>e,λ_ _ _ e=>e⟩ h|false=>rwa[Bool.or_false]
theorem aG.len{n:Bool}:∀{c:List PV}{H:Hp}{d:List V},aG K Hi n c H d->c.length=d.length
 |[],_,_,h=>by rw[show _=_ from h];rfl|x::c,_,_,h=>by obtain⟨u,r,e,a,b⟩:=h;rw[e,Mq,Mq,aG.len b]
theorem aG.at{n:Bool}:∀{c:List PV}{H:Hp}{d:List V}{i:Nat}{x:PV},aG K Hi n c H d->c[i]? =some x->∃u,d[i]? =some u/\Rp K Hi n x H u
 |[],_,_,_,_,h,e=>by simp at e|y::c,_,_,i,x,h,e=>by
  obtain⟨u,r,rfl,a,b⟩:=h;cases i with
  |zero=>simp at e;subst e;exact⟨u,by simp,a⟩|succ i=>simpa using aG.at b (by simpa using e)
theorem aG.at'{n:Bool}:∀{c:List PV}{H:Hp}{d:List V}{i:Nat}{u:V},aG K Hi n c H d->d[i]? =some u->∃x,c[i]? =some x/\Rp K Hi n x H u
 |[],_,_,_,_,h,e=>by obtain rfl:=h;simp at e|y::c,_,_,i,x,h,e=>by
  obtain⟨u,r,rfl,a,b⟩:=h;cases i with
  |zero=>simp at e;subst e;exact⟨y,by simp,a⟩|succ i=>simpa using aG.at' b (by simpa using e)
theorem aG.nil{n:Bool}{H:Hp}:aG K Hi n [] H []:=by rfl
theorem aG.cons{n:Bool}{x:PV}{d:List PV}{H:Hp}{u:V}{c:List V}(a:Rp K Hi n x H u)(b:aG K Hi n d H c):aG K Hi n (x::d) H (u::c):=by exact⟨u,c,rfl,a,b⟩
theorem aG.app{n:Bool}:∀{c d:List PV}{H:Hp}{e f:List V},aG K Hi n c H e->aG K Hi n d H f->aG K Hi n (c++d) H (e++f)
 |[],_,_,_,_,h,g=>by obtain rfl:=h;exact g|x::c,_,_,_,_,h,g=>by obtain⟨u,r,rfl,a,b⟩:=h;exact .cons a (aG.app b g)
theorem aG.take{n:Bool}:∀{c:List PV}{H:Hp}{d:List V}(k:Nat),aG K Hi n c H d->aG K Hi n (c.take k) H (d.take k)
 |[],_,_,_,h=>by obtain rfl:=h;simp;exact .nil|x::c,_,_,k,h=>by
  obtain⟨u,r,rfl,a,b⟩:=h;cases k with
  |zero=>exact .nil|succ k=>exact .cons a (aG.take k b)
theorem aG.drop{n:Bool}:∀{c:List PV}{H:Hp}{d:List V}(k:Nat),aG K Hi n c H d->aG K Hi n (c.drop k) H (d.drop k)
 |[],_,_,_,h=>by obtain rfl:=h;simp;exact .nil|x::c,_,_,k,h=>by
  obtain⟨u,r,rfl,a,b⟩:=h;cases k with
  |zero=>exact .cons a b|succ k=>exact aG.drop k b
theorem aG.rev{n:Bool}:∀{c:List PV}{H:Hp}{d:List V},aG K Hi n c H d->aG K Hi n c.reverse H d.reverse
 |[],_,_,h=>by obtain rfl:=h;exact .nil|x::c,_,_,h=>by obtain⟨u,r,rfl,a,b⟩:=h;rw[PX,PX];exact aG.app (aG.rev b) (.cons a .nil)
theorem aG.set{n:Bool}:∀{c:List PV}{H:Hp}{d:List V}(k:Nat){x:PV}{u:V},aG K Hi n c H d->Rp K Hi n x H u->aG K Hi n (c.set k x) H (d.set k u)
 |[],_,_,_,_,_,h,_=>by obtain rfl:=h;exact .nil|y::c,_,_,k,_,_,h,g=>by
  obtain⟨u,r,rfl,a,b⟩:=h;cases k with
  |zero=>exact .cons g b|succ k=>exact .cons a (aG.set k b g)
theorem Rp.int:Rp K Hi n (.int i) H u↔u=.int i:=by rfl
theorem Rp.str:Rp K Hi n (.str i) H u↔u=.str i:=by rfl
theorem Rp.bl:Rp K Hi n (.bl i) H u↔u=.bl i:=by rfl
theorem Rp.non:Rp K Hi n .non H u↔u=.non:=by rfl
theorem Rp.tup{n:Bool}{b:List PV}{H:Hp}{u:V}:Rp K Hi n (.tup b) H u↔∃p a,u=.ref p/\bT K H p a/\aG K Hi n b H a:=.rfl
theorem Rp.lst{n:Bool}{b:List PV}{H:Hp}{u:V}:Rp K Hi n (.lst b) H u↔∃p a,u=.ref p/\(n=true->Hi p=none/\H p=some (.lst a))/\bH K H p a/\aG K Hi n b (del H p) a:=.rfl
theorem aG.ints{n:Bool}{H:Hp}:∀{xs:List Int}{us:List V},aG K Hi n (xs.map PV.int) H us↔us=xs.map V.int
 |[],us=>by rfl|x::xs,us=>by
  rw[Mm,Mm,aG]
  constructor
  .rintro⟨u,r,rfl,a,b⟩
   rw[Rp.int.mp a,aG.ints.mp b]
  .rintro rfl
   exact⟨_,_,rfl,Rp.int.mpr rfl,aG.ints.mpr rfl⟩
def At:Bd->List V->HO->Prop
 | .lst,us,o=>o=.lst us| .dK ks,us,o=>o=.dK (ks.zip us)/\ks.length=us.length| .dT ks,us,o=>o=.dT (ks.zip us)/\ks.length=us.length
def Mo(o:HO):Prop:=∃b a,At b a o
theorem Mo.lst{a:List V}:Mo (.lst a):=⟨.lst,a,rfl⟩
theorem Mo.tup{a:List V}(h:Mo (.tup a)):False:=by
 obtain⟨b,d,h⟩:=h;cases b with
 |lst=>cases h|dK c=>cases h.1|dT c=>cases h.1
variable(K Hi)in
structure al(O:List Addr)(τ:En)(σ:L2.St)(H:Hp):Prop where
 same:aD Hi H
 own:∀l∈O,Hi l=none/\∃o,H l=some o/\Mo o
 frz:∀(i:Nat)(v:PV)(n:Bool),τ[i]? =some (.frz v n)->∃u,σ[i]? =some (some u)/\Rp K Hi n v (aV H O) u
 obs:∀(i:Nat)(t:TV)(b:Bd)(xs:List PV)(n:Bool),τ[i]? =some t->t.ob=some (b,xs,n)->∃l us o,σ[i]? =some (some (.ref l))/\l∈O/\H l=some o/\At b us o/\aG K Hi n xs (aV H O) us
 dst:∀(i j:Nat)(t t' :TV)(x y:Bd×List PV×Bool)(l:Addr),τ[i]? =some t->t.ob=some x->τ[j]? =some t' ->t'.ob=some y->σ[i]? =some (some (.ref l))->σ[j]? =some (some (.ref l))->i=j
section
variable{O:List Addr}{τ:En}{σ:L2.St}{H H' :Hp}
theorem al.owns(R:al K Hi O τ σ H)(i:Nat)(b:List PV)(n:Bool)(e:τ[i]? =some (.own b n)):∃l a,σ[i]? =some (some (.ref l))/\l∈O/\H l=some (.lst a)/\aG K Hi n b (aV H O) a:=by obtain⟨l,a,o,f,c,g,h,d⟩:=R.obs i _ .lst b n e rfl;cases h;exact⟨l,a,f,c,g,d⟩
theorem al.ext(R:al K Hi O τ σ H)(s:aD H H'):al K Hi O τ σ H' where
 same:=R.same.trans s
 own:=λl hl=>⟨(R.own l hl).1,by obtain⟨o,e,m⟩:=(R.own l hl).2;exact⟨o,s _ _ e,m⟩⟩
 frz:=λi v n e=>by obtain⟨u,c,a⟩:=R.frz i v n e;exact⟨u,c,a.mono (aO s)⟩
 obs:=λi t b xs n e ht=>by obtain⟨l,d,o,c,a,g,h,f⟩:=R.obs i t b xs n e ht;exact⟨l,d,o,c,a,s _ _ g,h,f.mono (aO s)⟩
 dst:=R.dst
theorem al.tups(R:al K Hi O τ σ H):wA H (aV H O):=by
 refine⟨λb xs e=> ?_,λb o xs e=> ?_⟩
 .unfold aV
  rw[MY λz=> ?_]
  .exact e
  .obtain⟨c,a,m⟩:=(R.own b z).2
   rw[e]at a;cases a;exact m.tup
 .unfold aV
  rw[MY λz=> ?_]
  .exact e
  .obtain⟨c,a,m⟩:=(R.own b z).2
   rw[e]at a;cases a;obtain⟨b,c,m⟩:=m;cases b with
   |lst=>cases m|dK d=>cases m.1|dT d=>cases m.1
set_option tactic.hygienic true in
theorem bC{a:Type}{l:List a}{i j:Nat}{x y:a}(h:(l.set i x)[j]? =some y):(i=j/\y=x)\/(i≠j/\l[j]? =some y):=by
 rw[Ow]at h
 split at h
 .rename_i e
  split at h;exact .inl ⟨e,(Mx h).symm⟩;cases h
 .rename_i e
  exact .inr ⟨e,h⟩
theorem al.setF(R:al K Hi O τ σ H){i:Nat}{v:PV}{n:Bool}{u:V}(D:i<σ.length)(r:Rp K Hi n v (aV H O) u):al K Hi O (τ.set i (.frz v n)) (σ.set i (some u)) H where
 same:=R.same
 own:=R.own
 frz:=λj w m e=>by
  rcases bC e with⟨rfl,c⟩|⟨h,c⟩
  .cases c
   exact⟨u,by rw[Nm D],r⟩
  .obtain⟨A,f,d⟩:=R.frz j w m c
   exact⟨A,by rwa[NQ h],d⟩
 obs:=λj t b xs m e ht=>by
  rcases bC e with⟨rfl,c⟩|⟨h,c⟩
  .subst c
   cases ht
  .obtain⟨l,s,o,f,d⟩:=R.obs j t b xs m c ht
   exact⟨l,s,o,by rwa[NQ h],d⟩
 dst:=λa b t t' x y l e1 ht e2 ht' f d=>by
  rcases bC e1 with⟨_,z⟩|⟨p,q⟩
  .subst z
   cases ht
  .rcases bC e2 with⟨_,z⟩|⟨g,C⟩
   .subst z
    cases ht'
   .rw[NQ p]at f
    rw[NQ g]at d;exact R.dst a b t t' x y l q ht C ht' f d
set_option tactic.hygienic true
theorem al.setB(R:al K Hi O τ σ H){b0:Bd}{o:HO}(u:Q.ob=some (b0,U,n))(N:i<σ.length)(s:aD H H')(I:H p=none)(S:H' p=some o)(W:At b0 J o)(r:aG K Hi n U (aV H' (p::O)) J) :
  al K Hi (p::O) (τ.set i Q) (σ.set i (some (.ref p))) H' :=by
 have X:aD (aV H O) (aV H' (p::O)):=λb o e=>by
  unfold aV at e ⊢
  split at e;cases e
  .rename_i Z
   have A:=aE e I;rw[MY (by simp[A,Z])];exact s b o e
 refine⟨R.same.trans s,λl L=> ?_,λj w m e=> ?_,λj t b ys m e ht=> ?_,λa b t t' x y l e1 ht e2 ht' f d=> ?_⟩
 .rcases Ml.mp L with rfl|L
  .exact⟨R.same.free I,o,S,_,_,W⟩
  .obtain⟨q,C,e,m⟩:=R.own l L
   exact⟨q,C,s _ _ e,m⟩
 .rcases bC e with⟨rfl,v⟩|⟨A,v⟩
  .rw[<- v]at u
   cases u
  .obtain⟨u',f,d⟩:=R.frz j w m v
   exact⟨u',by rwa[NQ A],d.mono X⟩
 .rcases bC e with⟨rfl,v⟩|⟨A,v⟩
  .subst v
   rw[u]at ht;cases ht;exact⟨p,J,o,by rw[Nm N],MX,S,W,r⟩
  .obtain⟨l,C,T,f,d,g3,g4,g5⟩:=R.obs j t b ys m v ht
   exact⟨l,C,T,by rwa[NQ A],MW _ d,s _ _ g3,g4,g5.mono X⟩
 .have z:∀(c:Nat)t x,τ[c]? =some t->t.ob=some x->σ[c]? =some (some (.ref l))->l≠p:=λc t x e ht g=>by
   obtain⟨b',Y,q⟩:=x;obtain⟨l',C,T,q1,q2,q3,_⟩:=R.obs c t b' Y q e ht;rw[q1]at g;cases g;exact aE q3 I
  rcases bC e1 with⟨rfl,E⟩|⟨M,E⟩
  .rw[Nm N]at f
   cases f
   rcases bC e2 with⟨rfl,_⟩|⟨h,D⟩
   .rfl
   .rw[NQ h]at d
    exact absurd rfl (z b t' y D ht' d)
  .rw[NQ M]at f
   rcases bC e2 with⟨rfl,D⟩|⟨h,D⟩
   .rw[Nm N]at d
    cases d;exact absurd rfl (z a t x E ht f)
   .rw[NQ h]at d
    exact R.dst a b t t' x y l E ht D ht' f d
theorem al.setO(R:al K Hi O τ σ H)(c:i<σ.length)(s:aD H H')(d:H p=none)(e:H' p=some (.lst a))(r:aG K Hi n b (aV H' (p::O)) a) :
  al K Hi (p::O) (τ.set i (.own b n)) (σ.set i (some (.ref p))) H' :=R.setB rfl c s d e rfl r
theorem al.updB(R:al K Hi O τ σ H){t:TV}{b1:Bd}{A:List V}{o:HO}(e:τ[i]? =some t)(u:t.ob=some (b,L,n))(p:v.ob=some (b1,I,m))(D:σ[i]? =some (some (.ref l)))(N:At b1 A o)(r:aG K Hi m I (aV H O) A) :
  al K Hi O (τ.set i v) σ (L2.upd H l o):=by
 obtain⟨l',vs,o',T,E,g3,g4,g5⟩:=R.obs i t b L n e u;rw[D]at T;cases T;have Q:aV (L2.upd H l o) O=aV H O:=by
  funext b
  unfold aV
  split;rfl
  .rename_i W
   exact aA λz=>W (z▸E)
 refine⟨λb o q=> ?_,λk hk=> ?_,λj w q z=> ?_,λj f b2 zs q z ht2=> ?_,λa b f s x y c e1 h2 e2 h3 k1 k2=> ?_⟩
 .rw[aA (aE q ((R.own l E).1))]
  exact R.same b o q
 .obtain⟨q,C,z,mo⟩:=R.own k hk
  refine⟨q,?_⟩
  by_cases c:k=l
  .subst c
   exact⟨o,aB,_,_,N⟩
  .exact⟨C,by rwa[aA c],mo⟩
 .rw[Q]
  rcases bC z with⟨rfl,d⟩|⟨M,d⟩
  .rw[<- d]at p
   cases p
  .exact R.frz j w q d
 .rw[Q]
  rcases bC z with⟨rfl,d⟩|⟨M,d⟩
  .subst d
   rw[p]at ht2;cases ht2;exact⟨l,A,o,D,E,aB,N,r⟩
  .obtain⟨J,C,o2,S,X,q3,Z,q5⟩:=R.obs j f b2 zs q d ht2
   refine⟨J,C,o2,S,X,?_,Z,q5⟩;rw[aA λc=> ?_]
   .exact q3
   .subst c
    exact M (R.dst i j t f _ _ J e u d ht2 D S)
 .have g:∀c (f:TV)x,(τ.set i v)[c]? =some f->f.ob=some x->∃(s:TV)(y:Bd×List PV×Bool),τ[c]? =some s/\s.ob=some y:=λc f x z h=>by
   rcases bC z with⟨rfl,_⟩|⟨_,d⟩
   .exact⟨_,_,e,u⟩
   .exact⟨_,_,d,h⟩
  obtain⟨_,_,U,w1⟩:=g a f x e1 h2;obtain⟨_,_,z2,w2⟩:=g b s y e2 h3;exact R.dst a b _ _ _ _ c U w1 z2 w2 k1 k2
theorem al.upd(R:al K Hi O τ σ H)(e:τ[i]? =some (.own c n))(d:σ[i]? =some (some (.ref l)))(r:aG K Hi m a (aV H O) b) :
  al K Hi O (τ.set i (.own a m)) σ (L2.upd H l (.lst b)):=R.updB e rfl rfl d rfl r
set_option tactic.hygienic false
theorem Rp.at{o:HO}{G:Hp}(d:n=true->Hi l=none)(h:G l=some o)(e:At b a o)(r:aG K Hi n c (del G l) a):Rp K Hi n (b.pv c) G (.ref l):=by
 cases b with
 |lst=>cases e;exact Rp.lst.mpr ⟨l,a,rfl,λz=>⟨d z,h⟩,bH.of h,r⟩|dK g =>obtain⟨rfl,f⟩:=e;exact⟨l,a,rfl,d,h,f,r⟩
 |dT g =>obtain⟨rfl,f⟩:=e;exact⟨l,a,rfl,d,h,f,r⟩
set_option tactic.hygienic true in
theorem al.freezeB(R:al K Hi O τ σ H){t:TV}(e:τ[i]? =some t)(v:t.ob=some (r,q,n)):∃C,al K Hi C (τ.set i (.frz (r.pv q) n)) σ H/\∀b∈C,b∈O:=by
 obtain⟨l,us,o,I,E,X,Z,T⟩:=R.obs i t r q n e v;refine⟨O.filter λb=>decide (b≠l),?_,λb hb=>(NL.mp hb).1⟩;have d:∀b,b∈O.filter (λb=>decide (b≠l))↔b∈O/\b≠l:=λb=>by simp
 have D:aD (aV H O) (aV H (O.filter λb=>decide (b≠l))):=xM λb hb=>((d b).mp hb).1;have W:aD (aV H O) (del (aV H (O.filter λb=>decide (b≠l))) l):=λb o z=>by
  unfold aV at z
  split at z;cases z
  .rename_i A
   have g:b≠l:=λc=>A (c▸E);unfold del aV;rwa[MY g,MY λc=>A ((d b).mp c).1]
 have Q:aV H (O.filter λb=>decide (b≠l)) l=some o:=by unfold aV;rwa[MY λc=>((d l).mp c).2 rfl]
 refine⟨R.same,λb hb=>R.own b ((d b).mp hb).1,λj w m z=> ?_,λj t2 b2 ys m z ht2=> ?_,λa b t2 t3 x y c e1 h2 e2 h3 k1 k2=> ?_⟩
 .rcases bC z with⟨rfl,f⟩|⟨g,f⟩
  .cases f
   exact⟨.ref l,I,Rp.at (λ_=>(R.own l E).1) Q Z (T.mono W)⟩
  .obtain⟨u,h,s⟩:=R.frz j w m f
   exact⟨u,h,s.mono D⟩
 .rcases bC z with⟨rfl,f⟩|⟨g,f⟩
  .subst f
   cases ht2
  .obtain⟨p,L,N,h,s,Y,M,S⟩:=R.obs j t2 b2 ys m f ht2
   exact⟨p,L,N,h,(d p).mpr ⟨s,λc=>by subst c;exact g (R.dst i j _ _ _ _ p e v f ht2 I h)⟩,Y,M,S.mono D⟩
 .rcases bC e1 with⟨_,z⟩|⟨_,J⟩
  .subst z
   cases h2
  .rcases bC e2 with⟨_,z⟩|⟨_,U⟩
   .subst z
    cases h3
   .exact R.dst a b t2 t3 x y c J h2 U h3 k1 k2
theorem al.freeze(R:al K Hi O τ σ H)(i:Nat):∃a,al K Hi a (pi τ i) σ H/\∀b∈a,b∈O:=by
 unfold pi;cases e:τ[i]? with
 |none=>exact⟨O,R,λb hb=>hb⟩|some t =>
  cases t with
  |un=>exact⟨O,R,λb hb=>hb⟩|frz v n=>exact⟨O,R,λb hb=>hb⟩|own c n=>exact R.freezeB e rfl|owd b c n=>exact R.freezeB e rfl
theorem al.freezes:∀{cap:List Nat}{O:List Addr}{c:En},al K Hi O c σ H->∃a,al K Hi a (bj cap c) σ H/\∀b∈a,b∈O
 |[],O,_,R=>⟨O,R,λb hb=>hb⟩|i::cap,_,_,R=>by obtain⟨a,g,e⟩:=R.freeze i;obtain⟨f,h,d⟩:=al.freezes g;exact⟨f,h,λb hb=>e b (d b hb)⟩
variable(K Hi)in
def af(O:List Addr)(H a :Hp):RV->V->Prop
 | .frz v n,u=>Rp K Hi n v (aV a O) u| .bor v,u=>Rp K Hi false v a u| .own xs n,u=>∃p c,u=.ref p/\H p=none/\a p=some (.lst c)/\aG K Hi n xs (aV (del a p) O) c| .owd b xs n,u=>∃p c o,u=.ref p/\H p=none/\a p=some o/\At b c o/\aG K Hi n xs (aV (del a p) O) c
theorem af.ext(h:af K Hi O H H' r u)(s:aD H' g):af K Hi O H g r u:=by
 cases r with
 |frz v n=>exact Rp.mono (aO s) h|bor v=>exact Rp.mono s h|own j n =>obtain⟨p,a,e,d,f,c⟩:=h;exact⟨p,a,e,d,s _ _ f,c.mono (aO (fW s))⟩
 |owd b j n =>obtain⟨p,a,o,e,d,f,i,c⟩:=h;exact⟨p,a,o,e,d,s _ _ f,i,c.mono (aO (fW s))⟩
theorem af.back(h:af K Hi O H H' r u)(s:aD g H):af K Hi O g H' r u:=by
 cases r with
 |frz v n=>exact h|bor v=>exact h|own j n =>obtain⟨p,a,e,d,f,c⟩:=h;exact⟨p,a,e,s.free d,f,c⟩
 |owd b j n =>obtain⟨p,a,o,e,d,f,i,c⟩:=h;exact⟨p,a,o,e,s.free d,f,i,c⟩
theorem iJ:aV (del H' p) O=del (aV H' O) p:=by
 funext b
 unfold aV del;dsimp only
 split<;>split<;>(try rfl)<;>simp_all
set_option tactic.hygienic true in
theorem af.keep(R:al K Hi O τ σ H)(h:af K Hi O H H' r u)(s:aD H H')(e:r.keep=some (v,n)):Rp K Hi n v (aV H' O) u:=by
 cases r with
 |frz w m =>cases e;exact h
 |bor w =>
  have e:(if imm w then some (w,true)else none)=some (v,n):=e
  split at e
  .rename_i i
   cases e;exact Rp.imm i (R.ext s).tups h
  .cases e
 |own l m =>
  cases e;obtain⟨p,j,e,a,g,f⟩:=h;have d:aV H' O p=some (.lst j):=by
   unfold aV;rw[MY λz=> ?_]
   .exact g
   .obtain⟨q,c,_⟩:=(R.own p z).2
    rw[a]at c;cases c
  exact Rp.lst.mpr ⟨p,j,e,λ_=>⟨R.same.free a,d⟩,bH.of d,by rwa[<- iJ]⟩
 |owd b l m =>
  cases e;obtain⟨p,j,o,e,a,g,x,f⟩:=h;subst e;have d:aV H' O p=some o:=by
   unfold aV;rw[MY λz=> ?_]
   .exact g
   .obtain⟨q,c,_⟩:=(R.own p z).2
    rw[a]at c;cases c
  exact Rp.at (λ_=>R.same.free a) d x (by rwa[<- iJ])
theorem af.val(R:al K Hi O τ σ H)(h:af K Hi O H H' r u)(s:aD H H'):Rp K Hi false r.val H' u:=by
 cases r with
 |frz w m=>exact(Rp.mono aQ h).weak|bor w=>exact h|own a m=>exact(Rp.mono aQ (h.keep R s rfl)).weak|owd b a m=>exact(Rp.mono aQ (h.keep R s rfl)).weak
set_option tactic.hygienic true in
theorem af.its(R:al K Hi O τ σ H)(h:af K Hi O H H' r u)(s:aD H H')(e:r.its=some (d,n)) :
  ∃p c,u=.ref p/\((bH K H' p c/\∃a,r.val=.lst a)\/(bT K H' p c/\∃a,r.val=.tup a))/\aG K Hi n d (aV H' O) c:=by
 cases r with
 |frz w m =>
  cases w with
  |lst a =>cases e;obtain⟨p,c,e,_,l,r⟩:=Rp.lst.mp h;exact⟨p,c,e,.inl ⟨(aQ).seq l,_,rfl⟩,r.mono br⟩
  |tup a =>cases e;obtain⟨p,c,e,l,r⟩:=Rp.tup.mp h;exact⟨p,c,e,.inr ⟨(aQ).tup l,_,rfl⟩,r⟩
  |_=>cases e
 |bor w =>
  cases w with
  |lst a =>
   have e:(if imms a then some (a,true)else none)=some (d,n):=e
   split at e
   .rename_i i
    cases e;obtain⟨p,c,e,_,l,r⟩:=Rp.lst.mp h;exact⟨p,c,e,.inl ⟨l,_,rfl⟩,aG.imm i (R.ext s).tups (r.mono br)⟩
   .cases e
  |tup a =>
   have e:(if imms a then some (a,true)else none)=some (d,n):=e
   split at e
   .rename_i i
    cases e;obtain⟨p,c,e,l,r⟩:=Rp.tup.mp h;exact⟨p,c,e,.inr ⟨l,_,rfl⟩,aG.imm i (R.ext s).tups r⟩
   .cases e
  |_=>cases e
 |own a m =>cases e;obtain⟨p,c,e,j,g,f⟩:=h;exact⟨p,c,e,.inl ⟨bH.of g,_,rfl⟩,f.mono (aO br)⟩
 |owd b a m=>cases e
end
end
end IR
namespace IR
open PySem
structure Ct where
 N:List Str
 S:List (Str×NameKind)
 F:List (Str×Nat)
 G:List (Str×PV)
 B:List Str
 M:List Nat
def slot:List Str->Str->Option Nat
 |[],_=>none|y::ys,x=>if y==x then some 0 else(slot ys x).map (·+1)
theorem fm:∀{N:List Str}{x:Str}{i:Nat},slot N x=some i->N[i]? =some x
 |[],_,_,h=>by cases h|y::ys,x,i,h=>by
  unfold slot at h
  split at h
  .rename_i e
   cases h;simp[Mz e]
  .cases e:slot ys x with
   |none=>rw[e]at h;cases h|some j =>
    rw[e]at h;cases h
    simpa using fm e
def GW(S:List (Str×NameKind))(x:Str):Bool:=S.lookup x==some .local||S.lookup x==some .cell||S.lookup x==some .free
def wy(x:Str):Bool:=x==("__debug__":Str)||x==("__classdict__":Str)||x==("__name__":Str)
def bW(ct:Ct)(x:Str):IE :=
 if wy x then .never else if GW ct.S x then(match slot ct.N x with
  |some i=>.var i|none=>.never)else if ct.S.lookup x==some .globalImplicit then(match ct.G.lookup x with
   |some v=>.con v|none=>.never)else .never
def cM:Expr->Bool
 | .Set .. =>true|_=>false
def wo:CmpOp->Bool
 | .Lt=>true| .LtE=>true| .Gt=>true| .GtE=>true| .Eq=>true| .NotEq=>true|_=>false
def xJ:Expr->Bool
 | .Slice .. =>true|_=>false
def isStar:Expr->Bool
 | .Starred .. =>true|_=>false
def plainB:Expr->Bool
 | .Name .. =>true| .Subscript .. =>true| .Constant .. =>true|_=>false
def og:Const->IE
 | .int i=>.con (.int i)| .bool b=>.con (.bl b)| .str z=>.con (.str z)| .none=>.con .non|_=>.never
def lw(c:BoolOp):List IE->IE
 |[]=>.never|[a]=>a|a::b::r=>match c with
  | .And=>.and a (lw c (b::r))| .Or=>.or a (lw c (b::r))
def lu(c:BoolOp):List IC->IC
 |[]=>.val .never|[a]=>a|a::b::r=>match c with
  | .And=>.and a (lu c (b::r))| .Or=>.or a (lu c (b::r))
def uG(x:Str)(k:Nat):Option Bf :=
 if x==("len":Str)&&k==1 then some .len else if x==("int":Str)&&k==1 then some .int else if x==("list":Str)&&k==1 then some .list else if x==("tuple":Str)&&k==1 then some .tuple
 else if x==("all":Str)&&k==1 then some .all else if x==("min":Str)&&k==2 then some .min else if x==("max":Str)&&k==2 then some .max else if x==("abs":Str)&&k==1 then some .abs
 else if x==("any":Str)&&k==1 then some .any else if x==("sum":Str)&&k==1 then some .sum else if x==("sorted":Str)&&k==1 then some .sorted else none
def mS(x:Str)(k:Nat):Option Bf:=uG x k
def wz(x y:Str):Option Bf :=
 if x==("sorted":Str)&&y==("set":Str)then some .sset
 else if x==("len":Str)&&y==("set":Str)then some .lset
 else if x==("tuple":Str)&&y==("reversed":Str)then some .trev
 else none
def AG(x:Str):Option String :=
 if x==("int":Str)then some "int" else if x==("bool":Str)then some "bool" else if x==("str":Str)then some "str" else if x==("list":Str)then some "list" else if x==("tuple":Str)then some "tuple" else none
def own(ct:Ct)(x:Str):Bool:=ct.B.contains x&&ct.S.lookup x==some .globalImplicit
def fc:Expr->Option (Str×List Expr)
 | .Call (.Name x _) es [] _=>some (x,es)|_=>none
set_option tactic.hygienic false
theorem zN{x:Str}{es:List Expr}(h:fc e=some (x,es)):∃p q,e=.Call (.Name x p) es [] q:=by
 unfold fc at h
 split at h
 .cases h
  exact⟨_,_,rfl⟩
 .cases h
def AX:List Expr->Option Expr
 |[b]=>some b|_=>none
def wX(e:Expr):Option Expr:=(fc e).bind λc=>if c.1==("reversed":Str)then AX c.2 else none
set_option tactic.hygienic true in
theorem yb(h:wX a=some b):∃p q,a=.Call (.Name "reversed" p) [b] [] q:=by
 unfold wX at h;cases e:fc a with
 |none=>rw[e]at h;cases h|some c =>
  rw[e]at h;have h:(if c.1==("reversed":Str)then AX c.2 else none)=some b:=h
  split at h
  .rename_i z
   obtain⟨p,q,rfl⟩:=zN e;rw[Mz z];cases f:c.2 with
   |nil=>rw[f]at h;cases h|cons d r =>
    rw[f]at h;cases r with
    |nil=>cases h;exact⟨p,q,rfl⟩|cons g r=>cases h
  .cases h
def nU(S names:List (Str×NameKind)):List (Str×NameKind):=names.map λ(n,k)=>if(k== .free&&true&&S.lookup n==some .cell)then(n,.cell)else(n,k)
def frees(scope:Scope):List Str:=(scope.names.filter λy=>y.2== .free).map (·.1)
def slots(N:List Str):List Str->Option (List Nat)
 |[]=>some []|x::xs=>(slot N x).bind λi=>(slots N xs).map (i::·)
def yv(ct:Ct)(t:Str)(scope:Scope):Bool :=
 scope.kind== .function&&(scope.names.all λy=> !(y.2== .cell)||scope.names.lookup y.1==some .cell)&&(scope.names.all λy=> !(y.2== .local)||scope.names.lookup y.1==some .local) &&
 (scope.names.all λy=> !(y.2== .free)||(ct.S.lookup y.1==some .cell||ct.S.lookup y.1==some .free))&&decide (t::frees scope).Nodup&&(scope.names.lookup t==some .local||scope.names.lookup t==some .cell) &&
 (frees scope).all λx=>scope.names.lookup x==some .free
def blk(ct:Ct)(t:Str)(scope:Scope):Ct:=⟨t::frees scope,nU ct.S scope.names,ct.F,ct.G,ct.B,[]⟩
def iI(ct:Ct)(t a:Str)(scope:Scope):Bool :=
 scope.kind== .function&&(scope.names.all λy=> !(y.2== .cell)||scope.names.lookup y.1==some .cell)&&(scope.names.all λy=> !(y.2== .local)||scope.names.lookup y.1==some .local) &&
 (scope.names.all λy=> !(y.2== .free)||(ct.S.lookup y.1==some .cell||ct.S.lookup y.1==some .free))&&decide (t::a::frees scope).Nodup&&(scope.names.lookup t==some .local||scope.names.lookup t==some .cell)&&(scope.names.lookup a==some .local||scope.names.lookup a==some .cell) &&
 (frees scope).all λx=>scope.names.lookup x==some .free
def blk2(ct:Ct)(t a:Str)(scope:Scope):Ct:=⟨t::a::frees scope,nU ct.S scope.names,ct.F,ct.G,ct.B,[]⟩
def yr:List IE->uS
 |[]=>.nil|e::es=>.cons e (yr es)
def kH:Expr->Option Str
 | .Name x _=>some x|_=>none
def lK:Expr->Option (Str×Str)
 | .Tuple c _ _=>(match c with
  |[a,b]=>(kH a).bind λx=>(kH b).map λy=>(x,y)|_=>none)
 |_=>none
def ki:Expr->Bool
 | .Subscript .. =>true|_=>false
def pq:Expr->Option Expr
 | .Call f d c a=>if d.isEmpty&&c.isEmpty then(match f with
  | .Attribute o m b=>if m==("items":Str)&&b.endLine==a.line&&(ki o||plainB o)then some o else none
  |_=>none)else none
 |_=>none
def JZ:Expr->Option (Str×Str)
 | .BinOp a c b _=>if c== .BitAnd then(kH a).bind λx=>(kH b).map λy=>(x,y)else none|_=>none
def vQ:Expr->Bool
 | .Constant c _ _=>(match c with
  | .int i=>i==0|_=>false)
 |_=>false
def Fm:Expr->Option (Str×Str)
 | .Compare a b d _=>(match b,d with
  |[o],[c]=>if o== .Eq&&vQ c then JZ a else none|_,_=>none)
 |_=>none
def sy:IE->Nat->Bool
 | .var i,j=>i==j|_,_=>false
def wJ(a:List Comprehension):Option (Str×Str×Expr×List Expr):=match a with
 |[g]=>if g.is_async=0 then(lK g.target).map λw=>(w.1,w.2,g.iter,g.ifs)else none|_=>none
def xI(f:Str)(ct:Ct)(a:Expr)(b:List Comprehension)(scope:Scope):Option (Expr×Nat):=if f==("sum":Str)then(match b with
 |[g]=>(match g.ifs with
  |[c]=>(lK g.target).bind λq=>(pq g.iter).bind λd=>(Fm c).bind λz=>(kH a).bind λy =>
   if ki d&&z.1==q.1&&y==q.2&&g.is_async==0&&iI ct q.1 q.2 scope&&decide (frees scope=[z.2])&&sy (bW (blk2 ct q.1 q.2 scope) q.1) 0&&sy (bW (blk2 ct q.1 q.2 scope) q.2) 1&&sy (bW (blk2 ct q.1 q.2 scope) z.2) 2 then(slot ct.N z.2).map λi=>(d,i)else none
  |_=>none)
 |_=>none)else none
theorem lJ(h:kH e=some x):∃p,e=.Name x p:=by
 unfold kH at h
 split at h;cases h;exact⟨_,rfl⟩;cases h
theorem w5(h:((kH a).bind λx=>(kH b).map λy=>(x,y))=some q):∃p d,a=.Name q.1 p/\b=.Name q.2 d:=by
 cases c:kH a with
 |none=>rw[c]at h;cases h|some x =>
  cases e:kH b with
  |none=>rw[c,e]at h;cases h|some y =>rw[c,e]at h;cases h;obtain⟨p,rfl⟩:=lJ c;obtain⟨d,rfl⟩:=lJ e;exact⟨p,d,rfl,rfl⟩
theorem ni(h:lK e=some q):∃p a k b,e=.Tuple [.Name q.1 p,.Name q.2 a] k b:=by
 unfold lK at h
 split at h
 .split at h
  .obtain⟨p,a,rfl,rfl⟩:=w5 h
   exact⟨p,a,_,_,rfl⟩
  .cases h
 .cases h
set_option tactic.hygienic true in
theorem yN{t:Str}(h:wJ e=some (t,i,a,b)):∃m f j d,e=[⟨.Tuple [.Name t m,.Name i f] j d,a,b,0⟩]:=by
 match e,h with
 |[],h=>cases h|_::_::_,h=>cases h|[⟨tg,it,fs,as⟩],h =>
  have c :(if as=0 then(lK tg).map λw=>(w.1,w.2,it,fs)else none)=some (t,i,a,b):=h
  split at c
  .rename_i l
   subst l
   cases g:lK tg with
   |none=>rw[g]at c;cases c|some w =>rw[g]at c;cases c;obtain⟨p,o,k,n,rfl⟩:=ni g;exact⟨_,_,_,_,rfl⟩
  .cases c
theorem yT(h:ki e=true):∃a i p,e=.Subscript a i p:=by
 unfold ki at h
 split at h;exact⟨_,_,_,rfl⟩;cases h
set_option tactic.hygienic true
theorem vZ(h:pq e=some d):∃g a,e=.Call (.Attribute d "items" g) [] [] a/\(g.endLine==a.line)=true/\(ki d||plainB d)=true:=by
 unfold pq at h
 split at h
 .rename_i f m l a
  split at h
  .rename_i c
   rw[Mb,List.isEmpty_iff,List.isEmpty_iff]at c;obtain⟨rfl,rfl⟩:=c
   split at h
   .split at h
    .rename_i c
     simp only[Mb]at c;cases h;obtain⟨⟨b,j⟩,i⟩:=c;have b:=Mz b;subst b;exact⟨_,_,rfl,j,i⟩
    .cases h
   .cases h
  .cases h
 .cases h
theorem Cr(h:JZ e=some q):∃p a b,e=.BinOp (.Name q.1 p) .BitAnd (.Name q.2 a) b:=by
 unfold JZ at h
 split at h
 .split at h
  .rename_i c
   obtain⟨p,a,rfl,rfl⟩:=w5 h;have c:=Mz c;subst c;exact⟨p,a,_,rfl⟩
  .cases h
 .cases h
set_option tactic.hygienic false
theorem vP(h:vQ e=true):∃k p,e=.Constant (.int 0) k p:=by
 unfold vQ at h
 split at h
 .split at h
  .have h:=Mz h
   subst h;exact⟨_,_,rfl⟩
  .cases h
 .cases h
set_option tactic.hygienic true in
theorem Cz(h:Fm e=some q):∃p d a k b f,e=.Compare (.BinOp (.Name q.1 p) .BitAnd (.Name q.2 d) a) [.Eq] [.Constant (.int 0) k b] f:=by
 unfold Fm at h
 split at h
 .split at h
  .split at h
   .rename_i c
    rw[Mb]at c;obtain⟨p,d,a,rfl⟩:=Cr h;obtain⟨k,b,rfl⟩:=vP c.2;have c:=Mz c.1;subst c;exact⟨p,d,a,k,b,_,rfl⟩
   .cases h
  .cases h
 .cases h
theorem jZ(h:sy e j=true):e=.var j:=by
 unfold sy at h
 split at h
 .have h:=Mz h
  subst h;rfl
 .cases h
inductive Itm(ct:Ct)(scope:Scope)(d:Expr)(i:Nat):Expr->List Comprehension->Prop
 | mk {x y t:Str} {p1 p2 p3 ap cp p4 p5 p6 p7 p8 p9:Pos} {k k2:Nat}:(ap.endLine==cp.line)=true->iI ct x y scope=true->frees scope=[t]->bW (blk2 ct x y scope) x=.var 0->bW (blk2 ct x y scope) y=.var 1->bW (blk2 ct x y scope) t=.var 2->slot ct.N t=some i ->
  Itm ct scope d i (.Name y p9) [⟨.Tuple [.Name x p1,.Name y p2] k p3,.Call (.Attribute d "items" ap) [] [] cp,[.Compare (.BinOp (.Name x p4) .BitAnd (.Name t p5) p6) [.Eq] [.Constant (.int 0) k2 p7] p8],0⟩]
set_option tactic.hygienic true
theorem yy{ct:Ct}{o:List Comprehension}{scope:Scope}(h:xI f ct a o scope=some (d,i)):f=("sum":Str)/\ki d=true/\Itm ct scope d i a o:=by
 refine Nw λno=> ?_;unfold xI at h
 split at h
 .rename_i M
  split at h
  .rename_i g
   obtain⟨J,x,u,w⟩:=g;dsimp only at h
   split at h
   .rename_i c
    cases b:lK J with
    |none=>rw[b]at h;cases h|some q =>
     cases e:pq x with
     |none=>rw[b,e]at h;cases h|some d' =>
      cases l:Fm c with
      |none=>rw[b,e,l]at h;cases h|some z =>
       cases n:kH a with
       |none=>rw[b,e,l,n]at h;cases h|some y =>
        rw[b,e,l,n]at h;simp only[M5]at h
        split at h
        .rename_i c
         simp only[Mb]at c;obtain⟨⟨⟨⟨⟨⟨⟨⟨E,S⟩,Q⟩,C⟩,D⟩,H⟩,A⟩,U⟩,I⟩:=c;obtain⟨O,s⟩:=q;obtain⟨p,v⟩:=z;cases m:slot ct.N v with
         |none=>simp only[m,Option.map_none]at h;cases h|some j =>simp only[m,Option.map_some]at h;cases h;have T:=Mz S;have L:=Mz Q;have R:=Mz C;subst T;subst L;subst R;obtain⟨p1,Y,k,p3,rfl⟩:=ni b;obtain⟨Z,X,rfl,r,e2⟩:=vZ e;obtain⟨p4,W,p6,k2,p7,p8,rfl⟩:=Cz l;obtain⟨p9,rfl⟩:=lJ n;exact no ⟨Mz M,E,.mk r D (NA H) (jZ A) (jZ U) (jZ I) m⟩
        .cases h
   .cases h
  .cases h
 .cases h
mutual
noncomputable def am:Nat->Ct->Expr->IE
 | 0,_,_=>.never
 | n+1,ct,e=>match e with
  | .Constant c _ _=>og c
  | .Name x _=>bW ct x
  | .BinOp a op b _=>.bin op (am n ct a) (am n ct b)
  | .UnaryOp op a _=>match op with
   | .USub=>.neg (am n ct a)
   | .Not=>.not (am n ct a)
   | _=>.never
  | .Compare a ops cs _=>match ops,cs with
   | [op],[b]=>if cM b then .never else .cmp op (am n ct a) (am n ct b)
   | [op,op'],[b,c]=>if cM c|| !wo op' then .never else .chn op op' (am n ct a) (am n ct b) (am n ct c)
   | _,_=>.never
  | .BoolOp op vs _=>if vs.length<2 then .never else lw op (vs.map (am n ct))
  | .IfExp c a b _=>.ite (mZ n ct c) (am n ct a) (am n ct b)
  | .List es _=>.lst (fF n ct es)
  | .Tuple es _ _=>.tup (fF n ct es)
  | .Dict ks vs _=>match ks,vs with
   | [],[]=>.dnew
   | [some (.Constant c _ _)],[v]=>match c with
    | .int i=>.dlit (.inl i) (am n ct v)
    | .str z=>.dlit (.inr z) (am n ct v)
    | _=>.never
   | _,_=>.never
  | .Subscript a i _=>match i with
   | .Slice lo hi st _=>match st with
    | none=>.sl (am n ct a) (Fw n ct lo) (Fw n ct hi)
    | some _=>.never
   | i=>.ix (am n ct a) (am n ct i)
  | .Call f es ks cp=>match ks with
   | []=>match f with
    | .Name x _=>jM n ct x es
    | .Attribute o m ap=>if ap.endLine==cp.line then nJ n ct o m es else .never
    | _=>.never
   | _=>.never
  | .ListComp elt gs scope _=>match gs with
   | [⟨.Name t _,iter,ifs,0⟩]=>if yv ct t scope then(match slots ct.N (frees scope)with
    | some caps=>.lc (am n (blk ct t scope) elt) (AM n ct false iter) (match ifs with
     | []=>.no
     | [c]=>.yes (mZ n (blk ct t scope) c)
     | _=>.yes (.val .never)) caps
    | none=>.never)else .never
   | gs=>(match wJ gs with
    | some (t,t2,iter,ifs)=>if iI ct t t2 scope then(match slots ct.N (frees scope)with
     | some caps=>.lc2 (am n (blk2 ct t t2 scope) elt) (AM n ct true iter) (match ifs with
      | []=>.no
      | [c]=>.yes (mZ n (blk2 ct t t2 scope) c)
      | _=>.yes (.val .never)) caps
     | none=>.never)else .never
    | none=>.never)
  | _=>.never
noncomputable def fF:Nat->Ct->List Expr->uS
 | 0,_,_=>.cons .never .nil
 | n+1,ct,es=>yr (es.map fun e=>if isStar e then .never else am n ct e)
noncomputable def Fw:Nat->Ct->Option Expr->IO
 | 0,_,_=>.yes .never
 | n+1,ct,e=>match e with
  | none=>.no
  | some e=>.yes (am n ct e)
noncomputable def mZ:Nat->Ct->Expr->IC
 | 0,_,_=>.val .never
 | n+1,ct,e=>match e with
  | .UnaryOp op a p=>match op with
   | .Not=>.not (mZ n ct a)
   | op=>.val (am n ct (.UnaryOp op a p))
  | .BoolOp op vs _=>lu op (vs.map (mZ n ct))
  | .IfExp _ _ _ _=>.val .never
  | e=>.val (am n ct e)
noncomputable def jM:Nat->Ct->Str->List Expr->IE
 | 0,_,_,_=>.never
 | n+1,ct,x,es=>if wy x then .never else if ct.S.lookup x==some .globalImplicit then(match ct.F.lookup x with
  | some f=>match es with
   | []=>.never
   | es=>.call f (fF n ct es)
  | none=>if ct.B.contains x then(if x==("isinstance":Str)then(match es with
    | [a,.Name t _]=>match AG t with
     | some ty=>if isStar a then .never else if own ct t then .bf (.isin ty) (.cons (am n ct a) .nil)else .never
     | none=>.never
    | _=>.never)else match es with
     | [.Call (.Name y _) [a] [] _]=>(match wz x y with
      | some f=>if isStar a|| !own ct y then .never else .bf f (.cons (am n ct a) .nil)
      | none=>match mS x es.length with
       | some f=>.bf f (fF n ct es)
       | none=>.never)
     | [.ListComp elt gs scope _]=>(match xI x ct elt gs scope with
      | some (d,i)=>.bf .sum (.cons (.lci (am n ct d) i) .nil)
      | none=>match mS x es.length with
       | some f=>.bf f (fF n ct es)
       | none=>.never)
     | es=>match mS x es.length with
      | some f=>.bf f (fF n ct es)
      | none=>.never)else .never)else .never
noncomputable def nJ:Nat->Ct->Expr->Str->List Expr->IE
 | 0,_,_,_,_=>.never
 | n+1,ct,o,m,es=>if plainB o then(match es with
  | [a]=>if isStar a then .never else if m==("index":Str)then .mth .index (am n ct o) (.cons (am n ct a) .nil)else .never
  | _=>.never)else .never
noncomputable def AM:Nat->Ct->Bool->Expr->IT
 | 0,_,_,_=>.never
 | n+1,ct,tp,e=>if cM e then .never else match wX e with
  | some a=>if isStar a|| !own ct ("reversed":Str)then .never else .rvd (am n ct a)
  | none=>match fc e with
  | some (x,es)=>if x==("range":Str)then(if own ct x then .rng (fF n ct es)else .never)else if x==("zip":Str)then(match es with
    | [a,b]=>if isStar a||isStar b|| !tp|| !own ct x then .never else .zip (am n ct a) (am n ct b)
    | _=>.never)else if x==("enumerate":Str)then(match es with
    | [a]=>if isStar a|| !tp|| !own ct x then .never else .enum (am n ct a)
    | _=>.never)else .seq (am n ct e)
  | none=>.seq (am n ct e)
end
def nA:Nat->Ct->Expr->List Nat
 |0,_,_=>[]|n+1,ct,e=>match e with
  | .Name x _=>(slot ct.N x).toList| .List c _=>c.flatMap (nA n ct)| .Tuple c _ _=>c.flatMap (nA n ct)| .IfExp _ a b _=>nA n ct a++nA n ct b|_=>[]
def m9:Nat->Ct->Expr->List Nat
 |0,_,_=>[]|n+1,ct,e=>match e with
  | .Name x _=>(slot ct.N x).toList| .List c _=>c.flatMap (m9 n ct)| .Tuple c _ _=>c.flatMap (m9 n ct)| .BinOp a _ b _=>m9 n ct a++m9 n ct b| .IfExp _ a b _=>m9 n ct a++m9 n ct b| .Call (.Name x _) c _ _=>if x==("tuple":Str)||x==("list":Str)||x==("sorted":Str)then c.flatMap (m9 n ct)else[]
  | .ListComp _ d _ _=>d.flatMap λg=>m9 n ct g.iter|_=>[]
def Lq(ct:Ct)(x:Str)(e:Expr):List Nat:=match e with
 | .BinOp (.Name y _) .Add (.List _ _) _=>(slot ct.N y).toList| .BinOp (.Name y _) .Add _ _=>if y==x then(slot ct.N x).toList else[]|_=>[]
def Lr(n:Nat)(ct:Ct)(e:Expr):List Nat:=match fc e with
 |some (x,es)=>if x==("zip":Str)||x==("enumerate":Str)||x==("reversed":Str)then es.flatMap (nA n ct)else[]
 |none=>nA n ct e
def loc(ct:Ct)(x:Str):Option Nat:=if(ct.S.lookup x==some .local||ct.S.lookup x==some .cell)&& !wy x then slot ct.N x else none
def Bl:Expr->Bool
 | .ListComp .. =>true| .SetComp .. =>true| .DictComp .. =>true|_=>false
def Aq:Option Expr->Option Expr->Option Str
 |some (.Call (.Name x _) [] [] _),none=>some x|_,_=>none
def locs(ct:Ct):List Expr->Option (List Nat)
 |[]=>some []| .Name x _::es=>(loc ct x).bind λi=>(locs ct es).map (i::·)|_::_=>none
def AL(ct:Ct):Expr->Option (List Nat×Bool)
 | .Name x _=>(loc ct x).map λi=>([i],true)| .Tuple a _ _=>(locs ct a).map λis=>(is,false)|_=>none
mutual
noncomputable def qu:Nat->Ct->Stmt->IS
 | 0,_,_=>.never
 | n+1,ct,s=>match s with
  | .Return v _=>match v with
   | some e=>.ret (m9 n ct e) (am n ct e)
   | none=>.retN
  | .Assign ts e _=>match ts with
   | [.Name x _]=>match loc ct x with
    | some i=>.asg i (ct.M.contains i) (Lq ct x e++nA n ct e) (am n ct e)
    | none=>.never
   | _=>.never
  | .If c a b _=>.ife (mZ n ct c) (fK n ct a) (fK n ct b)
  | .For tg it body els _=>match els with
   | []=>match AL ct tg with
    | some (is,one)=>.forr is one (Lr n ct it) (AM n ct (!one) it) (fK n ct body)
    | none=>.never
   | _=>.never
  | .While c body els _=>match els with
   | []=>.whil (mZ n ct c) (fK n ct body)
   | _=>.never
  | .Pass _=>.pass
  | .Break _=>.brk
  | .Continue _=>.cont
  | .Expr e _=>match e with
   | .Call (.Attribute (.Name x _) m ap) es [] cp=>if ap.endLine==cp.line then(match loc ct x with
    | some i=>(match es with
     | [a]=>if isStar a then .never else if m==("append":Str)then .app i (nA n ct a) (am n ct a)else .never
     | _=>.never)
    | none=>.never)else .never
   | _=>.never
  | .Raise e c _=>match Aq e c with
   | some x=>if ct.S.lookup x==some .globalImplicit&& !wy x then .rais x else .never
   | none=>.never
  | .AugAssign t op e _=>match t with
   | .Name x _=>match loc ct x with
    | some i=>.aug i op (am n ct e)
    | none=>.never
   | _=>.never
  | _=>.never
noncomputable def fK:Nat->Ct->List Stmt->uK
 | 0,_,_=>.cons .never .nil
 | n+1,ct,ss=>match ss with
  | []=>.nil
  | s::ss=>.cons (qu n ct s) (fK n ct ss)
end
section
set_option autoImplicit true
set_option relaxedAutoImplicit true
variable{n:Nat}{ct:Ct}
theorem qb:am 0 w0 w1=.never:=rfl
theorem qV:am (n+1) ct (.Constant c w1 w2)=(og c):=rfl
theorem qQ:am (n+1) ct (.Name x w1)=(bW ct x):=rfl
theorem qZ:am (n+1) ct (.BinOp a op b w1)=(.bin op (am n ct a) (am n ct b)):=rfl
theorem qN:am (n+1) ct (.UnaryOp op a w1)=(match op with
   | .USub=>.neg (am n ct a)| .Not=>.not (am n ct a)|_=>.never):=rfl
theorem qW:am (n+1) ct (.Compare a ops cs w1)=(match ops,cs with
   |[op],[b]=>if cM b then .never else .cmp op (am n ct a) (am n ct b)|[op,op'],[b,c]=>if cM c|| !wo op' then .never else .chn op op' (am n ct a) (am n ct b) (am n ct c)
   |_,_=>.never):=rfl
theorem qY:am (n+1) ct (.BoolOp op vs w1)=(if vs.length<2 then .never else lw op (vs.map (am n ct))):=rfl
theorem qT:am (n+1) ct (.IfExp c a b w1)=(.ite (mZ n ct c) (am n ct a) (am n ct b)):=rfl
theorem qS:am (n+1) ct (.List es w1)=(.lst (fF n ct es)):=rfl
theorem qO:am (n+1) ct (.Tuple es w1 w2)=(.tup (fF n ct es)):=rfl
theorem qU:am (n+1) ct (.Dict ks vs w1)=(match ks,vs with
   |[],[]=>.dnew|[some (.Constant c _ _)],[v]=>match c with
    | .int i=>.dlit (.inl i) (am n ct v)| .str z=>.dlit (.inr z) (am n ct v)|_=>.never
   |_,_=>.never):=rfl
theorem qP:am (n+1) ct (.Subscript a i w1)=(match i with
   | .Slice b d c _=>match c with
    |none=>.sl (am n ct a) (Fw n ct b) (Fw n ct d)|some _=>.never
   |i=>.ix (am n ct a) (am n ct i)):=rfl
theorem qX:am (n+1) ct (.Call f es ks cp)=(match ks with
   |[]=>match f with
    | .Name x _=>jM n ct x es| .Attribute o m a=>if a.endLine==cp.line then nJ n ct o m es else .never|_=>.never
   |_=>.never):=rfl
theorem qR:am (n+1) ct (.ListComp elt gs scope w1)=(match gs with
   |[⟨.Name t _,iter,ifs,0⟩]=>if yv ct t scope then(match slots ct.N (frees scope)with
    |some a=>.lc (am n (blk ct t scope) elt) (AM n ct false iter) (match ifs with
     |[]=>.no|[c]=>.yes (mZ n (blk ct t scope) c)|_=>.yes (.val .never)) a
    |none=>.never)else .never
   |gs=>(match wJ gs with
    |some (t,t2,iter,ifs)=>if iI ct t t2 scope then(match slots ct.N (frees scope)with
     |some a=>.lc2 (am n (blk2 ct t t2 scope) elt) (AM n ct true iter) (match ifs with
      |[]=>.no|[c]=>.yes (mZ n (blk2 ct t t2 scope) c)|_=>.yes (.val .never)) a
     |none=>.never)else .never
    |none=>.never)):=rfl
theorem z2b:fF 0 w0 w1=.cons .never .nil:=rfl
theorem z2c:fF (n+1) ct es=(yr (es.map λe=>if isStar e then .never else am n ct e)):=rfl
theorem z2f:Fw 0 w0 w1=.yes .never:=rfl
theorem z2g:Fw (n+1) ct (none)=(.no):=rfl
theorem z2h:Fw (n+1) ct (some e)=(.yes (am n ct e)):=rfl
theorem KH:mZ 0 w0 w1=.val .never:=rfl
theorem KD:mZ (n+1) ct (.UnaryOp op a p)=(match op with
   | .Not=>.not (mZ n ct a)|op=>.val (am n ct (.UnaryOp op a p))):=rfl
theorem KG:mZ (n+1) ct (.BoolOp op vs w1)=(lu op (vs.map (mZ n ct))):=rfl
theorem KF:mZ (n+1) ct (.IfExp w1 w2 w3 w4)=(.val .never):=rfl
theorem z1r:jM 0 w0 w1 w2=.never:=rfl
theorem z1s:jM (n+1) ct x es=(if wy x then .never else if ct.S.lookup x==some .globalImplicit then(match ct.F.lookup x with
  |some f=>match es with
   |[]=>.never|es=>.call f (fF n ct es)
  |none=>if ct.B.contains x then(if x==("isinstance":Str)then(match es with
    |[a,.Name t _]=>match AG t with
     |some b=>if isStar a then .never else if own ct t then .bf (.isin b) (.cons (am n ct a) .nil)else .never|none=>.never
    |_=>.never)else match es with
     |[.Call (.Name y _) [a] [] _]=>(match wz x y with
      |some f=>if isStar a|| !own ct y then .never else .bf f (.cons (am n ct a) .nil)
      |none=>match mS x es.length with
       |some f=>.bf f (fF n ct es)|none=>.never)
     |[.ListComp elt gs scope _]=>(match xI x ct elt gs scope with
      |some (d,i)=>.bf .sum (.cons (.lci (am n ct d) i) .nil)|none=>match mS x es.length with
       |some f=>.bf f (fF n ct es)|none=>.never)
     |es=>match mS x es.length with
      |some f=>.bf f (fF n ct es)|none=>.never)else .never)else .never):=rfl
theorem z2d:nJ 0 w0 w1 w2 w3=.never:=rfl
theorem z2e:nJ (n+1) ct o m es=(if plainB o then(match es with
  |[a]=>if isStar a then .never else if m==("index":Str)then .mth .index (am n ct o) (.cons (am n ct a) .nil)else .never|_=>.never)else .never):=rfl
theorem z2x:AM 0 w0 w1 w2=.never:=rfl
theorem z2y:AM (n+1) ct tp e=(if cM e then .never else match wX e with
  |some a=>if isStar a|| !own ct ("reversed":Str)then .never else .rvd (am n ct a)
  |none=>match fc e with
  |some (x,es)=>if x==("range":Str)then(if own ct x then .rng (fF n ct es)else .never)else if x==("zip":Str)then(match es with
    |[a,b]=>if isStar a||isStar b|| !tp|| !own ct x then .never else .zip (am n ct a) (am n ct b)
    |_=>.never)else if x==("enumerate":Str)then(match es with
    |[a]=>if isStar a|| !tp|| !own ct x then .never else .enum (am n ct a)
    |_=>.never)else .seq (am n ct e)
  |none=>.seq (am n ct e)):=rfl
theorem yL:qu 0 w0 w1=.never:=rfl
theorem yB:qu (n+1) ct (.Return v w1)=(match v with
   |some e=>.ret (m9 n ct e) (am n ct e)|none=>.retN):=rfl
theorem yK:qu (n+1) ct (.Assign ts e w1)=(match ts with
   |[.Name x _]=>match loc ct x with
    |some i=>.asg i (ct.M.contains i) (Lq ct x e++nA n ct e) (am n ct e)|none=>.never
   |_=>.never):=rfl
theorem yE:qu (n+1) ct (.If c a b w1)=(.ife (mZ n ct c) (fK n ct a) (fK n ct b)):=rfl
theorem yF:qu (n+1) ct (.For tg it body els w1)=(match els with
   |[]=>match AL ct tg with
    |some (is,one)=>.forr is one (Lr n ct it) (AM n ct (!one) it) (fK n ct body)|none=>.never
   |_=>.never):=rfl
theorem yA:qu (n+1) ct (.While c body els w1)=(match els with
   |[]=>.whil (mZ n ct c) (fK n ct body)|_=>.never):=rfl
theorem yD:qu (n+1) ct (.Pass w1)=(.pass):=rfl
theorem yI:qu (n+1) ct (.Break w1)=(.brk):=rfl
theorem yH:qu (n+1) ct (.Continue w1)=(.cont):=rfl
theorem yG:qu (n+1) ct (.Expr e w1)=(match e with
   | .Call (.Attribute (.Name x _) m ap) es [] cp=>if ap.endLine==cp.line then(match loc ct x with
    |some i=>(match es with
     |[a]=>if isStar a then .never else if m==("append":Str)then .app i (nA n ct a) (am n ct a)else .never|_=>.never)
    |none=>.never)else .never
   |_=>.never):=rfl
theorem yC:qu (n+1) ct (.Raise e c w1)=(match Aq e c with
   |some x=>if ct.S.lookup x==some .globalImplicit&& !wy x then .rais x else .never|none=>.never):=rfl
theorem yJ:qu (n+1) ct (.AugAssign t op e w1)=(match t with
   | .Name x _=>match loc ct x with
    |some i=>.aug i op (am n ct e)|none=>.never
   |_=>.never):=rfl
theorem z2i:fK 0 w0 w1=.cons .never .nil:=rfl
theorem z2k:fK (n+1) ct ([])=(.nil):=rfl
theorem z2j:fK (n+1) ct (s::ss)=(.cons (qu n ct s) (fK n ct ss)):=rfl
end
end IR
namespace L2
open PySem PySem.Spec PyProof.Rows
section
variable{X:Cx}
set_option tactic.hygienic false
theorem wx:dJ X (binaryOp .Add) (λx y H Q=>∃(l b:Addr)(j i:List V),x=.ref l/\y=.ref b/\bH X.K H l j/\bH X.K H b i/\j.length+i.length<=sizeLine/\∀p,H p=none->Q (.ref p) (upd H p (.lst (j++i)))):=by
 intro C s Z H x y v u Q I M W h;obtain⟨l,b,j,i,rfl,rfl,O,Y,hz,q⟩:=h;cases M;cases W;obtain⟨c,r,U,_⟩:=I.list O;obtain⟨a,J,w,_⟩:=I.list Y;have hl:=r.length;have S:=J.length;obtain⟨⟨cls,R,data,T⟩,L,E,n,D⟩:=id U.isList;obtain⟨⟨A,o,z,m⟩,f,g,N,d⟩:=id w.isList;subst E D g d;have e:c.toArray++a.toArray=(c++a).toArray:=by simp
 refine concat_meets ⟨_,L,rfl⟩ ⟨_,f,rfl⟩ noFill_list_add seq_list_add PySem.F.slot_list_add PySem.F.entry_list_add (PySem.F.args_list_add_2 _ _) (list_addW l b c.toArray a.toArray n N R o T m (by rw[Me,Me];omega)) ⟨L,f,?_⟩;rw[e];exact⟨.ref _,_,I.lnew (r.append J) (by rw[Mj];omega),rfl,q _ I.fresh⟩
theorem ww:dJ X (binaryOp .Add) (λx y H Q=>∃(a b:Addr)(c d:List V),x=.ref a/\y=.ref b/\bT X.K H a c/\bT X.K H b d/\c.length+d.length<=sizeLine/\∀p o,aD H o ->bT X.K o p (c++d)->Q (.ref p) o):=by
 intro f s R H x y u v Q I C L h;obtain⟨a,b,c,d,rfl,rfl,z,w,Z,q⟩:=h
 by_cases M:c=[]
 .subst M
  cases C;cases L;obtain⟨a0,S,U,_⟩:=I.tuple z;obtain⟨i,r2,O,_⟩:=I.tuple w;cases S;obtain⟨⟨cls,W,data,Y⟩,N,J,n,E⟩:=id U;obtain⟨⟨D,r,A,m⟩,j,l,T,g⟩:=id O;subst J E l g
  exact concat_meets ⟨_,N,rfl⟩ ⟨_,j,rfl⟩ noFill_tuple_add seq_tuple_add PySem.F.slot_tuple_add PySem.F.entry_tuple_add (Pz _ _)
   (tuple_addW0 a b #[] i.toArray n T W r Y m rfl) ⟨N,j,⟨.ref b,H,I,rfl,q b H (aD.refl H) w⟩⟩
 .refine ED f s R H (.ref a) (.ref b) u v Q I C L ⟨a,b,c,d,rfl,rfl,z,w,M,Z,λe=> ?_,λ_ p hp=>q p _ (aI hp _) (bT.of aB)⟩
  subst e;exact q a H (aD.refl H) (by rwa[NP])
theorem Dc:KA X (λx f l H Q=>∃a c,x=.ref a/\bT X.K H a c/\(HT.bZ c.length 0 f=0/\HT.bZ c.length c.length l=c.length)/\Q (.ref a) H):=by
 intro n s D H x v E J f l y Q I u o A z h;obtain⟨a,c,rfl,C,i,q⟩:=h;cases u;obtain⟨b,r,d,L⟩:=I.tuple C;have e:b.toArray.size=c.length:=by rw[Me];exact r.length.symm
 refine⟨"tuple",_,NW.lookup,d.typeIs,?_⟩;obtain⟨w,m,j,p⟩:=id o;have g:s.TypeIs (.ref y) "slice":=⟨w,m,j⟩;unfold getItem
 try with_reducible refine NV ?_
 first|refine MS (MV ?_)|skip
 refine MS (wpAny_sequenceKey d.typeIs (by decide) ?_)
 refine MS (Nb d.typeIs NW (NE NW d.typeIs entry_tuple_getitem ?_ (args_tuple_getitem _ _)))
 show wpAny _ _ (Builtin.Tuple.tupleItemsOf (.ref a) >>= _) _ _ s;refine MS (tupleItemsOf_ d ?_);refine MS (O0 g ?_);refine MS (HT.eO o A z ?_);rw[<- e]at i;show wpAny _ _ (if(((HT.bZ b.toArray.size 0 f:Nat):Int)==0&&(1:Int)==1&&(HT.bZ b.toArray.size b.toArray.size l-HT.bZ b.toArray.size 0 f)==b.toArray.size)=true then _ else _) _ _ s;rw[Ma (by rw[i.1,i.2];simp)];refine MS (MS (O0 d.typeIs (MV ?_)));exact MS (Pm (MV ⟨_,rfl,MV ⟨.ref a,H,I,rfl,q⟩⟩))
end
end L2
namespace IR
open PySem PySem.Spec PyProof.Rows L2
abbrev WE(X:Cx)(e:Expr)(b:L2.St)(H:Hp)(Q:VK):Prop:=∀(a:List (Addr×Obj))(s:Shared),Inv X a b H s->wpAny (model X.prog X.w) X.A (eval e X.env) (EP X a b Q) X.xe s
abbrev WT(X:Cx)(e:Expr)(b:L2.St)(H:Hp)(Q:Bool->Hp->Prop):Prop:=∀(a:List (Addr×Obj))(s:Shared),Inv X a b H s->wpAny (model X.prog X.w) X.A (isTrue e X.env (eval e X.env)) (TP X a b Q) X.xe s
abbrev WA(X:Cx)(c:List Expr)(b:L2.St)(H:Hp)(Q:List V->Hp->Prop):Prop:=∀(pos:Pos)(a:List (Addr×Obj))(s:Shared),Inv X a b H s->wpAny (model X.prog X.w) X.A (spliced (backTo pos (starEach c X.env))) (AP X a b Q) X.xe s
theorem aX:PE X e (λσ H Q=>WE X e σ H Q):=λpins s σ H Q I h=>h pins s I
theorem kF:PT X e (λσ H Q=>WT X e σ H Q):=λpins s σ H Q I h=>h pins s I
theorem uz:PA X e (λσ H Q=>WA X e σ H Q):=λpos pins s σ H Q I h=>h pos pins s I
theorem we{t:TE}(h:PE X e t)(q:t a H Q):WE X e a H Q:=λpins s I=>h pins s a H Q I q
theorem wt{t:TT}(h:PT X e t)(q:t a H Q):WT X e a H Q:=λpins s I=>h pins s a H Q I q
theorem wa{t:TA}(h:PA X e t)(q:t a H Q):WA X e a H Q:=λpos pins s I=>h pos pins s a H Q I q
def uO(K:W.Frag)(m:List PV->Option PV):Sp:=λvs H Q _=>∃a r,aG K H false a H vs/\m a=some r/\∀u b,aD H b ->Rp K H true r b u->Q u b
structure bh(cd:Nat->List PV->Option PV)(X:Cx)(ct:Ct):Prop where
 N:X.N=ct.N
 nd:ct.N.Nodup
 S:X.env.scope.names=ct.S
 kind:X.env.scope.kind=.function
 calm:X.calm=true
 glob:∀x v,ct.G.lookup x=some v->∃u w,X.mg x=some u/\RelV w u/\∀Hi n H,Rp X.K Hi n v H w
 bl:∀x,ct.B.contains x=true->X.mg x=none
 fns:∀x f,ct.F.lookup x=some f->∃k a fd ps,bQ X.prog X.w X.K X.mg X.base iw k a fd ps (uO X.K (cd f))/\fH k X.A/\X.mg x=some (.ref a)/\W.keepIn X.K (.ref a)=true/\Binds X.K fd ps []
 xe:PassesOwn (model X.prog X.w) X.A X.env X.xe
 un:X.A.units+64<cLine
section
variable{X:Cx}{Hi:Hp}{τ:En}
variable(X Hi τ)in
def aH(e:Expr)(r:RV):Prop:=∀(O:List Addr)(b:L2.St)(H:Hp)(Q:VK),al X.K Hi O τ b H->(∀u a,aD H a ->af X.K Hi O H a r u->Q u a)->WE X e b H Q
variable(X Hi τ)in
def fB(e:Expr)(b:Bool):Prop:=∀(O:List Addr)(c:L2.St)(H:Hp)(Q:Bool->Hp->Prop),al X.K Hi O τ c H->(∀a,aD H a ->Q b a)->WT X e c H Q
variable(X Hi)in
def cU(O:List Addr)(H a :Hp):List RV->List V->Prop
 |[],us=>us=[]|r::rs,us=>∃u b,us=u::b/\af X.K Hi O H a r u/\cU O H a rs b
variable(X Hi τ)in
def qI(e:List Expr)(d:List RV):Prop:=∀(O:List Addr)(c:L2.St)(H:Hp)(Q:List V->Hp->Prop),al X.K Hi O τ c H->(∀b a,aD H a ->cU X Hi O H a d b->Q b a)->WA X e c H Q
theorem eN:sizeLine=16777216:=NR
set_option tactic.hygienic false
theorem cU.ext{O:List Addr}{H f g:Hp}(s:aD f g):∀{c:List RV}{d:List V},cU X Hi O H f c d->cU X Hi O H g c d
 |[],_,h=>h|r::c,_,h=>by obtain⟨u,i,e,a,b⟩:=h;exact⟨u,i,e,a.ext s,cU.ext s b⟩
theorem cU.back{O:List Addr}{g H f :Hp}(s:aD g H):∀{c:List RV}{d:List V},cU X Hi O H f c d->cU X Hi O g f c d
 |[],_,h=>h|r::c,_,h=>by obtain⟨u,i,e,a,b⟩:=h;exact⟨u,i,e,a.back s,cU.back s b⟩
theorem cU.vals{O:List Addr}{f:L2.St}{H c :Hp}(R:al X.K Hi O τ f H)(s:aD H c):∀{d:List RV}{e:List V},cU X Hi O H c d e->aG X.K Hi false (d.map RV.val) c e
 |[],_,h=>by cases h;exact .nil|r::d,_,h=>by obtain⟨u,g,rfl,a,b⟩:=h;exact .cons (a.val R s) (cU.vals R s b)
theorem cU.keeps{O:List Addr}{l:L2.St}{H d :Hp}(R:al X.K Hi O τ l H)(s:aD H d):∀{c:List RV}{j:List V}{f:List PV}{n:Bool},cU X Hi O H d c j->IR.keeps c=some (f,n)->aG X.K Hi n f (aV d O) j
 |[],_,_,_,h,e=>by cases h;cases e;exact .nil|r::c,_,f,n,h,e=>by
  obtain⟨u,w,rfl,a,b⟩:=h;unfold IR.keeps at e;cases i:r.keep with
  |none=>rw[i]at e;cases e|some p =>
   obtain⟨v,o⟩:=p;rw[i]at e;cases g:IR.keeps c with
   |none=>rw[g]at e;cases e|some p =>
    obtain⟨m,q⟩:=p;rw[g]at e;cases e;refine .cons ((a.keep R s i).low λz=> ?_) ((cU.keeps R s b g).low λz=> ?_)
    .rw[Mb]at z;exact z.1
    .rw[Mb]at z;exact z.2
theorem gH(h:∀G,Rp X.K Hi true v G u):af X.K Hi O H a (sc v) u:=h _
theorem tf{k:Nat}{cd:Nat->List PV->Option PV}(h:aS cd (og c) τ=some r):aH X Hi τ (.Constant c k pos) r:=by
 intro O a H Q R q;cases c with
 |int i =>cases h;exact we cz (q _ _ (aD.refl _) (gH λ_=>Rp.int.mpr rfl))
 |bool b =>cases h;exact we fT (q _ _ (aD.refl _) (gH λ_=>Rp.bl.mpr rfl))
 |str b =>cases h;exact we ux (q _ _ (aD.refl _) (gH λ_=>Rp.str.mpr rfl))
 |none =>cases h;exact we uy (q _ _ (aD.refl _) (gH λ_=>Rp.non.mpr rfl))
 |_=>cases h
theorem zx(e:a.names=S)(h:GW S x=true):J9 a x:=by
 unfold GW at h;unfold J9;rw[e]
 simpa [N0,or_assoc]using h
theorem dA(h:wy x=false):(x==("__debug__":Str))=false/\(x==("__classdict__":Str))=false/\x≠"__name__":=by unfold wy at h;simp only[Bool.or_eq_false_iff]at h;exact⟨h.1.1,h.1.2,λe=>by rw[e]at h;simp at h⟩
set_option tactic.hygienic true in
theorem kR{ct:Ct}(C:bh E X ct)(h:aS E (bW ct x) τ=some r):aH X Hi τ (.Name x pos) r:=by
 intro O Y H Q R q;unfold bW at h
 split at h;simp[eD]at h
 rename_i W;obtain⟨J,M,Z⟩:=dA (OB.mpr W)
 split at h
 .rename_i L
  cases A:slot ct.N x with
  |none=>rw[A]at h;simp[eD]at h|some i =>
   rw[A]at h;have h:lj τ i=some r:=by simpa [dk,cq,dL,dc,dN,dm,dq,eB,dZ,dh,dU,dO,de,dS,dQ,eF,di,cZ,dR,dg,eE,df,eD]using h
   refine we (uv (by rw[C.N];exact fm A) (zx C.S L) J M) ?_;unfold lj at h;cases f:τ[i]? with
   |none=>rw[f]at h;cases h|some t =>
    rw[f]at h;cases t with
    |un=>cases h|frz v n =>cases h;obtain⟨u,d,a⟩:=R.frz i v n f;exact⟨u,d,q u H (aD.refl _) a⟩
    |own m n =>
     cases h;obtain⟨l,I,d,a,j,y⟩:=R.owns i m n f;refine⟨_,d,q _ H (aD.refl _) ?_⟩;refine Rp.lst.mpr ⟨l,I,rfl,(λz=>absurd z MZ),bH.of j,y.weak.mono λb o e=> ?_⟩;unfold aV at e
     split at e;cases e
     .rename_i p
      unfold del;have s:b≠l:=λz=>p (z▸a);rwa[MY s]
    |owd b m n =>
     cases h;obtain⟨l,I,o,d,a,j,T,y⟩:=R.obs i _ b m n f rfl;refine⟨_,d,q _ H (aD.refl _) ?_⟩;refine Rp.at (λz=>absurd z MZ) j T (y.weak.mono λc o e=> ?_);unfold aV at e
     split at e;cases e
     .rename_i p
      unfold del;have s:c≠l:=λz=>p (z▸a);rwa[MY s]
 .split at h
  .rename_i U
   cases D:ct.G.lookup x with
   |none=>rw[D]at h;simp[eD]at h|some v =>
    rw[D]at h;have h:some (sc v)=some r:=by simpa [dk,cq,dL,dc,dN,dm,dq,eB,dZ,dh,dU,dO,de,dS,dQ,eF,di,cZ,dR,dg,eE,df,eD]using h
    cases h;obtain⟨u,w,d,a,j⟩:=C.glob x v D;have g:Gl X x:=by
     show X.env.scope.names.lookup x=_;rw[C.S]
     simpa using U
    exact we (iC g d a J) (q _ _ (aD.refl _) (gH λ_=>j _ _ _))
  .simp[eD]at h
theorem mQ(j:dJ X (binaryOp f) g)(i:aH X Hi τ a x)(h:aH X Hi τ b y)
  (k:∀(O:List Addr)(d:L2.St)(H c:Hp)(u v:V)(Q:VK),al X.K Hi O τ d H->aD H c->af X.K Hi O H c x u->af X.K Hi O H c y v->(∀w e,aD c e->af X.K Hi O H e r w->Q w e)->g u v c Q) :
  aH X Hi τ (.BinOp a f b pos) r:=by
 intro O d H Q R q;refine we (fC j aX aX) ?_;refine i O d H _ R λu H1 s1 r1=>h O d H1 _ (R.ext s1) λv c s2 r2=> ?_;exact k O d H c u v Q R (s1.trans s2) (r1.ext s2) (r2.back s1) λw e s3 r3=>q w e (s1.trans (s2.trans s3)) r3
theorem af.int(R:al X.K Hi O τ b H)(s:aD H a)(h:af X.K Hi O H a x u)(e:x.val=.int i):u=.int i:=by have z:=h.val R s;rw[e]at z;exact Rp.int.mp z
theorem af.str(R:al X.K Hi O τ b H)(s:aD H a)(h:af X.K Hi O H a x u)(e:x.val=.str i):u=.str i:=by have z:=h.val R s;rw[e]at z;exact Rp.str.mp z
theorem af.bl(R:al X.K Hi O τ b H)(s:aD H a)(h:af X.K Hi O H a x u)(e:x.val=.bl i):u=.bl i:=by have z:=h.val R s;rw[e]at z;exact Rp.bl.mp z
theorem af.tup{O:List Addr}{d:L2.St}{H a :Hp}{x:RV}{u:V}{b:List PV}(R:al X.K Hi O τ d H)(s:aD H a)(h:af X.K Hi O H a x u)(e:x.val=.tup b):∃p c,u=.ref p/\bT X.K a p c/\aG X.K Hi false b a c:=by have z:=h.val R s;rw[e]at z;exact Rp.tup.mp z
theorem af.lst{O:List Addr}{f:L2.St}{H b :Hp}{x:RV}{u:V}{c:List PV}(R:al X.K Hi O τ f H)(s:aD H b)(h:af X.K Hi O H b x u)(e:x.val=.lst c):∃p a,u=.ref p/\bH X.K b p a/\aG X.K Hi false c b a:=by have z:=h.val R s;rw[e]at z;obtain⟨p,a,i,_,d,g⟩:=Rp.lst.mp z;exact⟨p,a,i,d,g.mono br⟩
theorem af.itsL(R:al X.K Hi O τ i H)(s:aD H b)(h:af X.K Hi O H b r u)(e:r.its=some (d,n))(g:r.val=.lst f) :
  ∃p c,u=.ref p/\bH X.K b p c/\aG X.K Hi n d (aV b O) c:=by
 obtain⟨p,c,j,a,l⟩:=h.its R s e
 rcases a with⟨a,_⟩|⟨_,m,a⟩
 .exact⟨p,c,j,a,l⟩
 .rw[g]at a
  cases a
theorem af.itsT(R:al X.K Hi O τ i H)(s:aD H b)(h:af X.K Hi O H b r u)(e:r.its=some (d,n))(g:r.val=.tup f) :
  ∃p c,u=.ref p/\bT X.K b p c/\aG X.K Hi n d (aV b O) c:=by
 obtain⟨p,c,j,a,l⟩:=h.its R s e
 rcases a with⟨_,m,a⟩|⟨a,_⟩
 .rw[g]at a
  cases a
 .exact⟨p,c,j,a,l⟩
theorem eh(s:aD H a)(c:a p=none)(r:aG X.K Hi n f (aV a O) b):af X.K Hi O H (L2.upd a p (.lst b)) (.own f n) (.ref p):=by refine⟨p,b,rfl,s.free c,aB,r.mono (aO λb o e=> ?_)⟩;have d:=aE e c;unfold del;rwa[MY d,aA d]
theorem pd{o:HO}(R:al X.K Hi O τ c H)(s:aD H a)(b:a p=none):aV (L2.upd a p o) O p=some o:=by
 unfold aV;rw[MY λz=> ?_]
 .exact aB
 .obtain⟨d,e,_⟩:=(R.own p z).2
  rw[s _ _ e]at b;cases b
theorem pc(R:al X.K Hi O τ c H)(s:aD H a)(h:bT X.K a p b):bT X.K (aV a O) p b:=(R.ext s).tups.at h
theorem IG(a:aG X.K Hi n e H d)(b:aG X.K Hi m c H f):aG X.K Hi (n&&m) (e++c) H (d++f):=by
 refine aG.app (a.low λz=> ?_) (b.low λz=> ?_)
 .rw[Mb]at z;exact z.1
 .rw[Mb]at z;exact z.2
theorem zg:af X.K Hi O H a (sc (.int i)) (.int i):=gH λ_=>Rp.int.mpr rfl
theorem F3:af X.K Hi O H a (sc (.bl i)) (.bl i):=gH λ_=>Rp.bl.mpr rfl
theorem scS:af X.K Hi O H a (sc (.str i)) (.str i):=gH λ_=>Rp.str.mpr rfl
set_option tactic.hygienic true
theorem xA(h:mf a n=some r):a.length<=LN/\r=.own a n:=by
 unfold mf at h
 split at h
 .rename_i e;cases h;exact⟨e,rfl⟩
 .cases h
theorem w9(h:pK a n=some r):a.length<=LN/\r=.frz (.tup a) n:=by
 unfold pK at h
 split at h
 .rename_i e;cases h;exact⟨e,rfl⟩
 .cases h
theorem binI(m:dJ X (binaryOp d) (rI C g))(f:aH X Hi τ a x)(n:aH X Hi τ b y)(l:x.val=.int i)(e:y.val=.int j)(c:C i j)
  (h:∀G,Rp X.K Hi true w G (g i j)):aH X Hi τ (.BinOp a d b pos) (sc w) :=
 mQ m f n λO σ H H2 u v Q R s ru rv q=>⟨i,j,ru.int R s l,rv.int R s e,c,q _ _ (aD.refl _) (gH h)⟩
theorem Ck(l:dJ X (binaryOp c) (Ar g))(e:aH X Hi τ a x)(m:aH X Hi τ b y)(h:x.val=.int i)(d:y.val=.int j)
  (f:∀G,Rp X.K Hi true w G (g i j)):aH X Hi τ (.BinOp a c b pos) (sc w) :=
 mQ l e m λO σ H H2 u v Q R s ru rv q=>⟨i,j,ru.int R s h,rv.int R s d,q _ _ (aD.refl _) (gH f)⟩
theorem uF(g:aH X Hi τ a x)(f:aH X Hi τ b y)(h:cT O x y=some r):aH X Hi τ (.BinOp a O b pos) r:=by
 cases O with
 |Add =>
  have h:v3 x y=some r:=h;unfold v3 at h
  split at h
  case h_1 i j d e=>cases h;exact Ck lF g f d e λ_=>Rp.int.mpr rfl
  case h_2 i j d e =>
   split at h
   .rename_i o
    cases h;exact mQ vA g f λO σ H H2 u v Q R s ru rv q=>⟨i,j,ru.str R s d,rv.str R s e,by rwa[eN],q _ _ (aD.refl _) scS⟩
   .cases h
  case h_3 d e =>
   split at h
   .rename_i T n S m I L
    obtain⟨o,rfl⟩:=xA h;refine mQ wx g f λO σ H H2 u v Q R s ru rv q=> ?_;obtain⟨p,J,rfl,M,w⟩:=ru.itsL R s I d;obtain⟨D,l,rfl,E,A⟩:=rv.itsL R s L e;have C:=w.len;have N:=A.len;rw[Mj]at o;exact⟨p,D,J,l,rfl,rfl,M,E,by rwa[eN,<-C,<-N],λp3 hp=>q _ _ (aI hp _) (eh s hp (IG w A))⟩
   .cases h
  case h_4 d e =>
   split at h
   .rename_i T n S m I L
    obtain⟨o,rfl⟩:=w9 h;refine mQ ww g f λO σ H H2 u v Q R s ru rv q=> ?_;obtain⟨p,J,rfl,M,w⟩:=ru.itsT R s I d;obtain⟨D,l,rfl,E,A⟩:=rv.itsT R s L e;rw[Mj]at o;exact⟨p,D,J,l,rfl,rfl,M,E,by rwa[eN,<-w.len,<-A.len],λp3 H3 s3 l3=>q _ _ s3 (Rp.tup.mpr ⟨p3,_,rfl,pc R (s.trans s3) l3,(IG w A).mono (aO s3)⟩)⟩
   .cases h
  case h_5=>cases h
 |Sub =>
  have h:vv x y=some r:=h;unfold vv at h
  split at h
  case h_1 i j d e=>cases h;exact Ck Hc g f d e λ_=>Rp.int.mpr rfl
  case h_2=>cases h
 |Mult =>
  have h:qC x y=some r:=h;unfold qC at h
  split at h
  case h_1 i j d e =>
   split at h
   .rename_i c
    cases h;exact binI Hh g f d e c λ_=>Rp.int.mpr rfl
   .split at h
    .rename_i c
     cases h;exact binI EC g f d e c λ_=>Rp.int.mpr rfl
    .cases h
  case h_2=>cases h
 |FloorDiv =>
  have h:ff x y=some r:=h;unfold ff at h
  split at h
  case h_1 i j d e =>
   split at h
   .rename_i c
    cases h;exact binI BD g f d e ⟨c.1,Op ((Nat.log2_lt (k:=200) (by omega)).mpr (by omega)) (by decide)⟩ λ_=>Rp.int.mpr rfl
   .cases h
  case h_2=>cases h
 |Mod =>
  have h:vz x y=some r:=h;unfold vz at h
  split at h
  case h_1 i j d e =>
   split at h
   .rename_i c
    cases h;exact binI Hk g f d e c λ_=>Rp.int.mpr rfl
   .cases h
  case h_2=>cases h
 |Pow =>
  have h:vy x y=some r:=h;unfold vy at h
  split at h
  case h_1 i j d e =>
   split at h
   .rename_i c
    cases h;exact binI Hf g f d e c λ_=>Rp.int.mpr rfl
   .cases h
  case h_2=>cases h
 |LShift =>
  have h:jm x y=some r:=h;unfold jm at h
  split at h
  case h_1 i j d e =>
   split at h
   .rename_i c
    cases h;exact binI Hd g f d e c λ_=>Rp.int.mpr rfl
   .cases h
  case h_2=>cases h
 |BitAnd =>
  have h:jn x y=some r:=h;unfold jn at h
  split at h
  case h_1 i j d e=>cases h;exact Ck BE g f d e λ_=>Rp.int.mpr rfl
  case h_2=>cases h
 |_=>exact absurd (show none=some r from h) (by intro z;cases z)
mutual
theorem bL{pins:List (Addr×Obj)}{σ:L2.St}{H:Hp}{s:Shared}(I:Inv X pins σ H s):∀{a:PV}{n:Nat}{u:V}{u' :Value},eG n a=true->Rp X.K Hi false a H u->RelV u u' ->∃as,Reads s.heap u' (my a) as
 | .non,_,_,_,_,r,e=>by cases Rp.non.mp r;cases e;exact⟨_,.none⟩
 | .bl b,_,_,_,_,r,e=>by cases Rp.bl.mp r;cases e;exact⟨_,.bool b⟩
 | .int i,_,_,_,_,r,e=>by cases Rp.int.mp r;obtain⟨t,rfl⟩:=e;exact⟨_,.int i t⟩
 | .str z,_,_,_,_,r,e=>by cases Rp.str.mp r;obtain⟨t,rfl⟩:=e;exact⟨_,.str z t⟩
 | .lst xs,n,_,_,f,r,e=>by
  obtain⟨p,us,rfl,_,l,r⟩:=Rp.lst.mp r;cases e;cases n with
  | zero=>cases f
  | succ n =>
   obtain⟨its,rv,pl,_⟩:=I.list l;obtain⟨as,z⟩:=gh I (xs:=xs) (n:=n) f (r.mono br) rv;obtain⟨o,ho,hc,m,hd⟩:=pl.isList;exact⟨_,.list ho hc hd (by simpa using z)⟩
 | .tup xs,n,_,_,f,r,e=>by
  obtain⟨p,us,rfl,l,r⟩:=Rp.tup.mp r;cases e;cases n with
  | zero=>cases f
  | succ n =>
   obtain⟨its,rv,pl,_⟩:=I.tuple l;obtain⟨as,z⟩:=gh I (xs:=xs) (n:=n) f r rv;obtain⟨o,ho,hc,m,hd⟩:=pl;exact⟨_,.tuple ho hc hd (by simpa using z)⟩
 | .dK _ _,n,_,_,f,_,_=>by cases n<;>cases f
 | .dT _ _,n,_,_,f,_,_=>by cases n<;>cases f
theorem gh{pins:List (Addr×Obj)}{σ:L2.St}{H:Hp}{s:Shared}(I:Inv X pins σ H s):∀{xs:List PV}{n:Nat}{us:List V}{us' :List Value},xs.all (eG n)=true->aG X.K Hi false xs H us->aM us us' ->∃as,ReadsAll s.heap us' (d6 xs) as
 | [],_,_,_,_,r,e=>by
  obtain rfl:=r;cases e;exact⟨_,.nil⟩
 | x::xs,n,_,_,f,r,e=>by
  obtain⟨u,us,rfl,r1,r2⟩:=r;cases e with
  | cons e1 e2 =>
   rw[PM,Mb]at f;obtain⟨as,z⟩:=bL I f.1 r1 e1;obtain⟨bs,y⟩:=gh I f.2 r2 e2;exact⟨_,.cons z y⟩
end
mutual
theorem dY:∀{a:PV}{n:Nat},eG n a=true->(my a).canLay0=true/\(my a).depth<=n
 | .non,n,_=>⟨rfl,M6 _⟩
 | .bl _,n,_=>⟨rfl,M6 _⟩
 | .int _,n,_=>⟨rfl,M6 _⟩
 | .str z,n,h=>⟨by cases n<;>exact h,M6 _⟩
 | .lst xs,0,h=>by cases h
 | .lst xs,n+1,h=>⟨(eX (xs:=xs) (n:=n) h).1,Nat.succ_le_succ (eX (xs:=xs) (n:=n) h).2⟩
 | .tup xs,0,h=>by cases h
 | .tup xs,n+1,h=>⟨(eX (xs:=xs) (n:=n) h).1,Nat.succ_le_succ (eX (xs:=xs) (n:=n) h).2⟩
 | .dK _ _,n,h=>by cases n<;>cases h
 | .dT _ _,n,h=>by cases n<;>cases h
theorem eX:∀{xs:List PV}{n:Nat},xs.all (eG n)=true->PyData.canLayAll0 (d6 xs)=true/\PyData.depthAll (d6 xs)<=n
 | [],n,_=>⟨rfl,M6 _⟩
 | x::xs,n,h=>by
  rw[PM,Mb]at h;obtain⟨a,b⟩:=dY h.1;obtain⟨c,d⟩:=eX h.2;refine⟨?_,?_⟩
  .show((my x).canLay0&&PyData.canLayAll0 (d6 xs))=true
   rw[a,c];rfl
  .show max (my x).depth (PyData.depthAll (d6 xs))<=n
   omega
end
mutual
theorem iP:∀(a b:PV),PyData.eqv (my a) (my b)=oF a b
 | .lst xs,b=>by
  cases b with
  | lst ys=>show PyData.eqvAll (d6 xs) (d6 ys)=mw xs ys;exact l6 xs ys
  | _=>rfl
 | .tup xs,b=>by
  cases b with
  | tup ys=>show PyData.eqvAll (d6 xs) (d6 ys)=mw xs ys;exact l6 xs ys
  | _=>rfl
 | .non,b=>by cases b<;>rfl
 | .bl x,b=>by cases b<;>first|rfl|exact beq_eq_decide _ _|(unfold oF;simp[my,PyData.eqv,Ew,Pc])
 | .int x,b=>by cases b<;>first|rfl|exact beq_eq_decide _ _|(unfold oF;simp[my,PyData.eqv,Ew,Pc])
 | .str x,b=>by cases b<;>first|rfl|exact beq_eq_decide _ _|(unfold oF;simp[my,PyData.eqv,Ew,Pc])
 | .dK k v,b=>by cases b<;>rfl
 | .dT k v,b=>by cases b<;>rfl
theorem l6:∀(xs ys:List PV),PyData.eqvAll (d6 xs) (d6 ys)=mw xs ys
 | [],[]=>rfl
 | [],_::_=>rfl
 | _::_,[]=>rfl
 | x::xs,y::ys=>by
  show(PyData.eqv (my x) (my y)&&PyData.eqvAll (d6 xs) (d6 ys))=(oF x y&&mw xs ys);rw[iP x y,l6 xs ys]
end
set_option tactic.hygienic false
theorem mD(x:PV):∀a:List PV,((d6 a).any λy=>PyData.eqv y (my x))=a.any λy=>oF y x
 |[]=>rfl|y::a=>by show(PyData.eqv (my y) (my x)||(d6 a).any λy=>PyData.eqv y (my x))=(oF y x||a.any λy=>oF y x);rw[iP,mD x a]
variable(X Hi)in
def Kx(g:Bool->Bool):R2:=λx y H Q=>∃a b,eG 12 a=true/\eG 12 b=true/\Rp X.K Hi false a H x/\Rp X.K Hi false b H y/\Q (.bl (g (oF a b))) H
theorem u9(C:X.A.units+64<cLine):dJ X (compareOp .Eq) (Kx X Hi id):=by intro c s r H x y u v Q I f o h;obtain⟨a,b,e,d,g,m,q⟩:=h;obtain⟨z,n⟩:=bL I e g f;obtain⟨p,j⟩:=bL I d m o;obtain⟨l,w⟩:=dY e;obtain⟨i,D⟩:=dY d;refine SeqAt.compareEq_reads n j l i (by omega) ?_;rw[iP];exact⟨.bl _,H,I,rfl,q⟩
theorem Hg(C:X.A.units+64<cLine):dJ X (compareOp .NotEq) (Kx X Hi not):=by intro c s r H x y u v Q I f o h;obtain⟨a,b,e,d,g,m,q⟩:=h;obtain⟨z,n⟩:=bL I e g f;obtain⟨p,j⟩:=bL I d m o;obtain⟨l,w⟩:=dY e;obtain⟨i,D⟩:=dY d;refine SeqAt.compareNe_reads n j l i (by omega) ?_;rw[iP];exact⟨.bl _,H,I,rfl,q⟩
variable(X Hi)in
def rIn2(g:Bool->Bool):R2:=λx y H Q=>∃a b,eG 12 a=true/\b.all (eG 12)=true/\Rp X.K Hi false a H x/\(Rp X.K Hi false (.lst b) H y\/Rp X.K Hi false (.tup b) H y)/\Q (.bl (g (b.any λy=>oF y a))) H
theorem wu(D:X.A.units+64<cLine):dJ X (compareOp .NotIn) (rIn2 X Hi not):=by
 intro f s w H x y u v Q I p m h;obtain⟨a,e,j,c,r,b,q⟩:=h;obtain⟨C,l⟩:=bL I j r p;obtain⟨i,z⟩:=dY j;obtain⟨g,E⟩:=eX c
 rcases b with b|b
 .obtain⟨o,d⟩:=bL I (a:=.lst e) (n:=13) c b m
  refine SeqAt.notIn_list_reads d l g i (by omega) ?_;rw[mD];exact⟨.bl _,H,I,rfl,q⟩
 .obtain⟨o,d⟩:=bL I (a:=.tup e) (n:=13) c b m
  refine SeqAt.notIn_tuple_reads d l g i (by omega) ?_;rw[mD];exact⟨.bl _,H,I,rfl,q⟩
def uN(d:CmpOp)(A:Around)(s:Shared)(a b:Value)(t:Bool):Prop:=∀(c:Program)(w:World)(E:Value->Shared->Prop)(Q:Value->Shared->Prop),Q (.bool t) s->wpAny (model c w) A (richCompare d a b) Q E s
inductive OW(op:CmpOp)(A:Around)(s:Shared):List (Value×Value)->Option Bool->Prop
 | nil:OW op A s [] none
 | eq {p q:Value} {r:List (Value×Value)} {t:Option Bool}:SeqAt.EqAt A s p q true->OW op A s r t->OW op A s ((p,q)::r) t
 | ne {p q:Value} {r:List (Value×Value)} {t:Bool}:SeqAt.EqAt A s p q false->uN op A s p q t->OW op A s ((p,q)::r) (some t)
structure TOp(op:CmpOp)(f:Int->Int->Bool)(g:Nat->Nat->Bool):Prop where
 int:∀{A:Around}{s:Shared}{i j:Int}{t t' :Tok},uN op A s (.int i t) (.int j t') (f i j)
 tup:∀{A:Around}{s:Shared}{l b:Addr}{xs ys:Array Value}{t:Option Bool},s.heap.IsTuple l xs->s.heap.IsTuple b ys->A.units<cLine->OW op A.in1 s (xs.toList.zip ys.toList) t->uN op A s (.ref l) (.ref b) (t.getD (g xs.size ys.size))
 co:∀a b:Value,compareOp op a b=richCompare op a b
 s1:∀n,g (n+1) 0=g 1 0
 s2:∀a b,g (a+1) (b+1)=g a b
theorem jT{h:Heap}:∀{c:List PV}{d:List Value}{e:List Addr},ReadsAll h d (d6 c) e->d.length=c.length
 |[],_,_,r=>by cases r;rfl|x::c,_,_,r=>by
  cases r with
  |cons a b=>rw[Mq,Mq,jT b]
set_option tactic.hygienic true
mutual
theorem Cc{op:CmpOp}{f:Int->Int->Bool}{g:Nat->Nat->Bool}(T:TOp op f g):∀{x y:PV}{n:Nat}{A:Around}{s:Shared}{a b:Value}{as bs:List Addr}{t:Bool},Reads s.heap a (my x) as->Reads s.heap b (my y) bs->eG n x=true->eG n y=true->A.units+n<cLine->Lp f g x y=some t->uN op A s a b t
 | .int i,y,_,_,_,_,_,_,_,_,ra,rb,_,_,_,h=>by
  cases y with
  | int j =>
   cases h;cases ra;cases rb;exact T.int
  | _=>cases h
 | .tup xs,y,n,A,s,_,_,_,_,t,ra,rb,fa,fb,hu,h=>by
  cases y with
  | tup ys =>
   cases n with
   | zero=>cases fa
   | succ n =>
    cases ra with
    | @tuple l o vs m _ _ h1 h2 h3 h4 =>
     cases rb with
     | @tuple l' o' ws m' _ _ k1 k2 k3 k4 =>
      obtain⟨o,ow,e⟩:=xi T (A:=A.in1) (n:=n) h4 k4 fa fb (by show A.units+1+n<cLine;omega) h;rw[M0,M0]at e;rw[e];exact T.tup ⟨_,h1,h2,_,h3⟩ ⟨_,k1,k2,_,k3⟩ (by omega) ow
  | _=>cases h
 | .non,_,_,_,_,_,_,_,_,_,_,_,_,_,_,h=>by cases h
 | .bl _,_,_,_,_,_,_,_,_,_,_,_,_,_,_,h=>by cases h
 | .str _,_,_,_,_,_,_,_,_,_,_,_,_,_,_,h=>by cases h
 | .lst _,_,_,_,_,_,_,_,_,_,_,_,_,_,_,h=>by cases h
 | .dK _ _,_,_,_,_,_,_,_,_,_,_,_,_,_,_,h=>by cases h
 | .dT _ _,_,_,_,_,_,_,_,_,_,_,_,_,_,_,h=>by cases h
theorem xi{op:CmpOp}{f:Int->Int->Bool}{g:Nat->Nat->Bool}(T:TOp op f g):∀{xs ys:List PV}{n:Nat}{A:Around}{s:Shared}{vs ws:List Value}{as bs:List Addr}{t:Bool},ReadsAll s.heap vs (d6 xs) as->ReadsAll s.heap ws (d6 ys) bs->xs.all (eG n)=true->ys.all (eG n)=true->A.units+n<cLine->FK f g xs ys=some t ->
  ∃o:Option Bool,OW op A s (vs.zip ws) o/\t=o.getD (g vs.length ws.length)
 | [],ys,_,_,_,_,_,_,_,_,ra,rb,_,_,_,h=>by
  cases h;cases ra;exact⟨none,.nil,by rw[jT rb];rfl⟩
 | x::xs,[],_,_,_,_,_,_,_,_,ra,rb,_,_,_,h=>by
  cases h;cases rb;exact⟨none,by rw[List.zip_nil_right];exact .nil,by rw[jT ra];exact(T.s1 _).symm⟩
 | x::xs,y::ys,n,A,s,_,_,_,_,t,ra,rb,fa,fb,hu,h=>by
  rw[PM,Mb]at fa fb;cases ra with
  | cons r rs =>
   cases rb with
   | cons r' rs' =>
    obtain⟨c1,d1⟩:=dY fa.1;obtain⟨c2,d2⟩:=dY fb.1;have he:=SeqAt.eqAt_reads (my x) (my y) A s _ _ _ _ r r' c1 c2 (by omega);rw[iP]at he;have h:(if oF x y=true then FK f g xs ys else Lp f g x y)=some t:=h;cases e:oF x y with
    | true =>
     rw[e]at h he;obtain⟨o,ow,z⟩:=xi T rs rs' fa.2 fb.2 hu h;refine⟨o,.eq he ow,?_⟩;rw[z,Mq,Mq,T.s2]
    | false =>
     rw[e]at h he;exact⟨some t,.ne he (Cc T r r' fa.1 fb.1 hu h),rfl⟩
end
variable(X Hi)in
def Ky(f:Int->Int->Bool)(g:Nat->Nat->Bool):R2:=λx y H Q=>∃a b t,eG 12 a=true/\eG 12 b=true/\Rp X.K Hi false a H x/\Rp X.K Hi false b H y/\Lp f g a b=some t/\Q (.bl t) H
set_option tactic.hygienic false
theorem Hn(T:TOp i f g)(E:X.A.units+64<cLine):dJ X (compareOp i) (Ky X Hi f g):=by intro c s C H x y u v Q I l r h;obtain⟨a,b,t,j,d,m,o,e,q⟩:=h;obtain⟨D,p⟩:=bL I j m l;obtain⟨w,n⟩:=bL I d o r;rw[T.co];exact (Cc T (A:=X.A) p n j d (by omega) e) _ _ _ _ ⟨.bl _,H,I,rfl,q⟩
theorem Ga(l b:Addr)(xs ys:Array Value)(n n2:Nat)(d1 d2:Option Addr)(sl sl2:Array (Option Value)):Meets (Builtin.«tuple.__lt__» ⟨[.ref l,.ref b],[]⟩)
  (λA R s=>s.heap.get? l=some ⟨.type "tuple",d1,.seq xs n,sl⟩/\s.heap.get? b=some ⟨.type "tuple",d2,.seq ys n2,sl2⟩ /\ ∃t:Option Bool,OW .Lt A.in1 s (xs.toList.zip ys.toList) t/\R (.ok (.ret (.bool (t.getD (decide (xs.size<ys.size)))))) s) :=
 .of_wp λprog w A R s h=>by
  obtain⟨hp,g,d,tk,os⟩:=s;obtain⟨h1,h2,t,ow,hR⟩:=h;have f2:=AutoSeq1.sub_tuple_tuple
  wp_walk using AutoSeq1.wpAny_loadPart' h1,AutoSeq1.wpAny_loadPart' h2,wpAny_forIn_list _ (λaP c s' =>c.1=none/\s' =⟨hp,g,d,tk,os⟩/\∃t,OW .Lt A.in1 ⟨hp,g,d,tk,os⟩ aP t/\R (.ok (.ret (.bool (t.getD (decide (xs.size<ys.size)))))) ⟨hp,g,d,tk,os⟩) _
  case turn =>
   rintro⟨y,x⟩ aP c s' ⟨hc,rfl,t,ow,hR⟩;cases ow with
   |eq he ow =>
    refine MS (he prog w _ _ ?_)
    wp_walk
    exact⟨rfl,rfl,t,ow,hR⟩
   |ne he hl =>refine MS (he prog w _ _ ?_);refine MS (Pm (MS (hl prog w _ _ ?_)));refine MS (MV (MV ?_));exact MV ⟨_,rfl,hR⟩
  case fin =>
   rintro⟨c1,c2⟩ s' ⟨hc,rfl,t,ow,hR⟩;cases ow;subst hc
   wp_walk
   exact⟨_,rfl,by simpa [Builtin.Tuple.tupleCompareSizes]using hR⟩
  case h =>exact⟨rfl,rfl,t,ow,hR⟩
theorem yt{A:Around}{t:Option Bool}(p:s.heap.IsTuple l c)(r:s.heap.IsTuple b a)(v:A.units<cLine)(o:OW .Lt A.in1 s (c.toList.zip a.toList) t):uN .Lt A s (.ref l) (.ref b) (t.getD (decide (c.size<a.size))):=λprog w E Q h=>by obtain⟨⟨I,y,D,q⟩,f,e,n,j⟩:=id p;obtain⟨⟨H,x,C,u⟩,d,i,m,g⟩:=id r;simp only at e j i g;subst e j i g;exact richCompare_meets_room ⟨_,f,rfl⟩ ⟨_,d,rfl⟩ PySem.F.slot_tuple_lt PySem.F.entry_tuple_lt (PySem.F.args_tuple_lt_2 _ _) (Ga l b c a n m y x q u) ⟨f,d,t,o,(λz=>nomatch z),h⟩ v
theorem LK:TOp .Lt (λi j=>decide (i<j)) λa b=>decide (a<b):=⟨λ_ _ _ _ q=>PyProof.Rows.lt_int q,yt,λ_ _=>rfl,λn=>rfl,λa b=>decide_eq_decide.mpr (by omega)⟩
theorem BB(c:X.A.units+64<cLine):dJ X (compareOp .Lt) (Ky X Hi (λi j=>decide (i<j)) λa b=>decide (a<b)):=Hn LK c
end
section
variable{X:Cx}{Hi:Hp}{τ:En}
set_option tactic.hygienic false
theorem CB{t:Bool}(h:eqs a b=some t)(ha:Rp X.K Hi false a H u)(hb:Rp X.K Hi false b H' v):Gr u v=true/\decide (u=v)=t:=by
  cases a<;>cases b<;>first
    | exact absurd (show none=some t from h) (by intro z;cases z)
    | (have e:=Mx (show some _=some t from h)
       subst e
       first
       | rw[Rp.int.mp ha]|rw[Rp.str.mp ha]|rw[Rp.bl.mp ha]|rw[Rp.non.mp ha]
       first
       | rw[Rp.int.mp hb]|rw[Rp.str.mp hb]|rw[Rp.bl.mp hb]|rw[Rp.non.mp hb]
       exact⟨rfl,by simp⟩)
theorem xS(c:Rp X.K Hi false a H u)(f:tP a=true):gJ u=true:=by
 cases a with
 |non=>rw[Rp.non.mp c];rfl|bl b=>rw[Rp.bl.mp c];rfl|int b=>rw[Rp.int.mp c];rfl|str b=>rw[Rp.str.mp c];rfl|_=>cases f
theorem JF(c:Rp X.K Hi false a H u)(d:Rp X.K Hi false b e v)(f:tP a=true)(g:tP b=true):zh u v=Ew a b:=by
 cases a<;>(try cases f)<;>cases b<;>(try cases g) <;>
  (first|rw[Rp.int.mp c]|rw[Rp.str.mp c]|rw[Rp.bl.mp c]|rw[Rp.non.mp c]) <;>
  (first|rw[Rp.int.mp d]|rw[Rp.str.mp d]|rw[Rp.bl.mp d]|rw[Rp.non.mp d]) <;>
  first|rfl|exact beq_eq_decide _ _|exact(beq_eq_decide _ _).symm|(simp[zh,Ew,Pc];done)|(unfold zh Ew;simp only[beq_eq_decide])
theorem tO:∀{c:List PV}{H:Hp}{d:List V},aG X.K Hi false c H d->c.all tP=true->d.all gJ=true
 |[],_,_,h,_=>by obtain rfl:=h;rfl|x::c,_,_,h,f=>by obtain⟨u,r,rfl,a,b⟩:=h;rw[PM,Mb]at f ⊢;exact⟨xS a f.1,tO b f.2⟩
theorem Cw{x:PV}{i :Hp}{v:V}(g:Rp X.K Hi false x i v)(e:tP x=true):∀{c:List PV}{H:Hp}{d:List V},aG X.K Hi false c H d->c.all tP=true->inV v d=c.any λy=>Ew y x
 |[],_,_,h,_=>by obtain rfl:=h;rfl|y::c,_,_,h,f=>by obtain⟨u,r,rfl,a,b⟩:=h;rw[PM,Mb]at f;show(zh u v||inV v r)=_;rw[Pe,Cw g e b f.2,JF a g f.1 e]
theorem Hv(c:Rp X.K Hi false a H u)(h:∀z,a≠z\/z≠PV.non):u≠.non:=by
 intro e;subst e;cases a with
 |non=>rcases h .non with z|z<;>exact z rfl
 |bl b=>cases Rp.bl.mp c|int b=>cases Rp.int.mp c|str b=>cases Rp.str.mp c|lst f=>obtain⟨p,d,z,_⟩:=Rp.lst.mp c;cases z
 |tup f=>obtain⟨p,d,z,_⟩:=Rp.tup.mp c;cases z
 |dK g i=>obtain⟨p,d,z,_⟩:=c;cases z
 |dT g i=>obtain⟨p,d,z,_⟩:=c;cases z
def rInS:R2:=λx y H Q=>∃a z,x=.str a/\y=.str z/\Q (.bl (Txt.contains z a)) H
theorem Hm:dJ X (compareOp .In) rInS:=by intro b s e H x y u v Q I c d h;obtain⟨a,z,rfl,rfl,q⟩:=h;obtain⟨t,rfl⟩:=c;obtain⟨f,rfl⟩:=d;exact P.in_str ⟨.bl _,H,I,rfl,q⟩
set_option tactic.hygienic true in
theorem fY(o:X.A.units+64<cLine){x y:RV}{t:Bool}(h:aq D x.val y.val=some t):∃E:R2,dJ X (compareOp D) E /\ ∀(O:List Addr)(f:L2.St)(H a:Hp)(u v:V)(Q:VK),al X.K Hi O τ f H->aD H a->af X.K Hi O H a x u->af X.K Hi O H a y v->Q (.bl t) a->E u v a Q:=by
 cases D with
 |Lt =>
  have h:CY x.val y.val=some t:=h;unfold CY at h
  split at h
  case h_1 i j g d=>cases h;exact⟨_,LC,λO f H a u v Q R s ru rv q=>⟨i,j,ru.int R s g,rv.int R s d,q⟩⟩
  case h_2 M C g d =>
   unfold ltT at h
   split at h
   .rename_i c
    rw[Mb]at c;exact⟨_,BB o,λO f H a u v Q R s ru rv q=>⟨_,_,t,c.1,c.2,by have z:=ru.val R s;rwa[g]at z,by have z:=rv.val R s;rwa[d]at z,h,q⟩⟩
   .cases h
  case h_3=>cases h
 |LtE =>
  have h:vh x.val y.val=some t:=h;unfold vh at h
  split at h
  case h_1 i j g d=>cases h;exact⟨_,LD,λO f H a u v Q R s ru rv q=>⟨i,j,ru.int R s g,rv.int R s d,q⟩⟩
  case h_2=>cases h
 |Gt =>
  have h:Cb x.val y.val=some t:=h;unfold Cb at h
  split at h
  case h_1 i j g d=>cases h;exact⟨_,LF,λO f H a u v Q R s ru rv q=>⟨i,j,ru.int R s g,rv.int R s d,q⟩⟩
  case h_2=>cases h
 |GtE =>
  have h:vi x.val y.val=some t:=h;unfold vi at h
  split at h
  case h_1 i j g d=>cases h;exact⟨_,LG,λO f H a u v Q R s ru rv q=>⟨i,j,ru.int R s g,rv.int R s d,q⟩⟩
  case h_2=>cases h
 |Eq =>
  have h:GJ x.val y.val=some t:=h;unfold GJ at h
  split at h
  .rename_i z
   cases h;refine⟨_,wv,λO f H a u v Q R s ru rv q=> ?_⟩;obtain⟨w,m⟩:=CB z (ru.val R s) (rv.val R s);exact⟨w,by rwa[m]⟩
  .split at h
   .rename_i c
    rw[Mb]at c;cases h;exact⟨_,u9 o,λO f H a u v Q R s ru rv q=>⟨_,_,c.1,c.2,ru.val R s,rv.val R s,q⟩⟩
   .cases h
 |NotEq =>
  have h:(GJ x.val y.val).map (!·)=some t:=h;obtain⟨k,e,rfl⟩:∃k,GJ x.val y.val=some k/\t= !k:=by
   cases e:GJ x.val y.val with
   |none=>rw[e]at h;cases h|some k=>rw[e]at h;cases h;exact⟨k,rfl,rfl⟩
  unfold GJ at e
  split at e
  .rename_i z
   cases e;refine⟨_,LB,λO f H a u v Q R s ru rv q=> ?_⟩;obtain⟨w,m⟩:=CB z (ru.val R s) (rv.val R s);exact⟨w,by rwa[m]⟩
  .split at e
   .rename_i c
    rw[Mb]at c;cases e;exact⟨_,Hg o,λO f H a u v Q R s ru rv q=>⟨_,_,c.1,c.2,ru.val R s,rv.val R s,q⟩⟩
   .cases e
 |Is =>
  have h:CZ x.val y.val=some t:=h;unfold CZ at h
  split at h
  case h_1 g d =>cases h;refine⟨_,BC,λO f H a u v Q R s ru rv q=> ?_⟩;have w:=ru.val R s;have m:=rv.val R s;rw[g]at w;rw[d]at m;exact⟨Rp.non.mp m,by rwa[Rp.non.mp w]⟩
  case h_2 d J =>
   cases h;refine⟨_,BC,λO f H a u v Q R s ru rv q=> ?_⟩;have m:=rv.val R s;rw[d]at m;have n:=Hv (ru.val R s) λz=>by by_cases c:z=.non;left;intro L;exact J (L.trans c);right;exact c
   exact⟨Rp.non.mp m,by rwa[Mt n]⟩
  case h_3 b c g d=>cases h;exact⟨_,Hl,λO f H a u v Q R s ru rv q=>⟨b,c,ru.bl R s g,rv.bl R s d,q⟩⟩
  case h_4=>cases h
 |NotIn =>
  have h:mH x.val y.val=some t:=h;unfold mH at h
  split at h
  case h_1 C d =>
   obtain⟨k,e,rfl⟩:∃k,Jy x.val C=some k/\t= !k:=by
    cases e:Jy x.val C with
    |none=>rw[e]at h;cases h|some k=>rw[e]at h;cases h;exact⟨k,rfl,rfl⟩
   unfold Jy at e
   split at e
   .rename_i c
    cases e;refine⟨_,pF,λO f H a u v Q R s ru rv q=> ?_⟩;obtain⟨p,I,rfl,l,r⟩:=rv.tup R s d;exact⟨p,I,rfl,.inr l,xS (ru.val R s) c.1,tO r c.2,by rwa[Cw (ru.val R s) c.1 r c.2]⟩
   .split at e
    .rename_i c
     rw[Mb]at c;cases e;exact⟨_,wu o,λO f H a u v Q R s ru rv q=>⟨_,C,c.1,c.2,ru.val R s,.inr (by have z:=rv.val R s;rwa[d]at z),q⟩⟩
    .cases e
  case h_2=>cases h
 |In =>
  have h:Ca x.val y.val=some t:=h;unfold Ca at h
  split at h
  case h_1 y z g d=>cases h;exact⟨_,Hm,λO f H a u v Q R s ru rv q=>⟨y,z,ru.str R s g,rv.str R s d,q⟩⟩
  case h_2=>cases h
 |_=>exact absurd (show none=some t from h) (by intro z;cases z)
theorem BM(h:cM b=false):behindInMarks a b=false:=by cases b<;>first|rfl|cases h
theorem JM(d:X.A.units+64<cLine){t:Bool}(g:aH X Hi τ a x)(f:aH X Hi τ b y)(i:cM b=false)(h:aq e x.val y.val=some t):aH X Hi τ (.Compare a [e] [b] pos) (sc (.bl t)):=by obtain⟨l,j,k⟩:=fY d h;intro O c H Q R q;refine we (pE j aX aX (BM i)) ?_;refine g O c H _ R λu H1 s1 r1=>f O c H1 _ (R.ext s1) λv H2 s2 r2=> ?_;exact k O c H H2 u v Q R (s1.trans s2) (r1.ext s2) (r2.back s1) (q _ _ (s1.trans s2) F3)
theorem CV(d:X.A.units+64<cLine){t:Bool}(g:aH X Hi τ a x)(f:aH X Hi τ b y)(i:cM b=false)(h:aq e x.val y.val=some t):fB X Hi τ (.Compare a [e] [b] pos) t:=by obtain⟨l,j,k⟩:=fY d h;intro O c H Q R q;refine wt (hJ j aX aX (BM i)) ?_;refine g O c H _ R λu H1 s1 r1=>f O c H1 _ (R.ext s1) λv H2 s2 r2=> ?_;exact k O c H H2 u v _ R (s1.trans s2) (r1.ext s2) (r2.back s1) ⟨t,rfl,q _ (s1.trans s2)⟩
theorem pI(h:cM c=false):lastMarks [d,a] [b,c]=false:=by exact BM h
theorem Ce(f:X.A.units+64<cLine){o2:CmpOp}{pos:Pos}{t t2:Bool}(i:aH X Hi τ a x)(g:aH X Hi τ b y)(l:cM c=false)(h:aq p x.val y.val=some t)
  (j:if t=true then∃z,aH X Hi τ c z/\aq o2 y.val z.val=some t2 else t2=false/\∃w z,aq o2 w z=some false):aH X Hi τ (.Compare a [p,o2] [b,c] pos) (sc (.bl t2))/\fB X Hi τ (.Compare a [p,o2] [b,c] pos) t2:=by
 obtain⟨C,m,k⟩:=fY f h;cases t with
 |true =>
  obtain⟨z,s,n⟩:=j;obtain⟨r,e,o⟩:=fY f n
  constructor
  .intro O d H Q R q
   refine we (rq m e aX aX aX (pI l)) ?_;refine i O d H _ R λu H1 s1 r1=>g O d H1 _ (R.ext s1) λv H2 s2 r2=> ?_;refine k O d H H2 u v _ R (s1.trans s2) (r1.ext s2) (r2.back s1) ⟨true,rfl,?_⟩;refine s O d H2 _ (R.ext (s1.trans s2)) λw H3 s3 r3=> ?_;exact o O d H H3 v w Q R (s1.trans (s2.trans s3)) ((r2.back s1).ext s3) (r3.back (s1.trans s2)) (q _ _ (s1.trans (s2.trans s3)) F3)
  .intro O d H Q R q
   refine wt (rR m e aX aX aX (pI l)) ?_;refine i O d H _ R λu H1 s1 r1=>g O d H1 _ (R.ext s1) λv H2 s2 r2=> ?_;refine k O d H H2 u v _ R (s1.trans s2) (r1.ext s2) (r2.back s1) ⟨true,rfl,?_⟩;refine s O d H2 _ (R.ext (s1.trans s2)) λw H3 s3 r3=> ?_;exact o O d H H3 v w _ R (s1.trans (s2.trans s3)) ((r2.back s1).ext s3) (r3.back (s1.trans s2)) ⟨t2,rfl,q _ (s1.trans (s2.trans s3))⟩
 |false =>
  obtain⟨rfl,w,z,n⟩:=j;obtain⟨r,e,o⟩:=fY (Hi:=Hi) (τ:=τ) f (x:=sc w) (y:=sc z) n
  constructor
  .intro O d H Q R q
   refine we (rq m e aX aX aX (pI l)) ?_;refine i O d H _ R λu H1 s1 r1=>g O d H1 _ (R.ext s1) λv H2 s2 r2=> ?_;exact k O d H H2 u v _ R (s1.trans s2) (r1.ext s2) (r2.back s1) ⟨false,rfl,by rw[MY MZ];exact q _ _ (s1.trans s2) F3⟩
  .intro O d H Q R q
   refine wt (rR m e aX aX aX (pI l)) ?_;refine i O d H _ R λu H1 s1 r1=>g O d H1 _ (R.ext s1) λv H2 s2 r2=> ?_;exact k O d H H2 u v _ R (s1.trans s2) (r1.ext s2) (r2.back s1) ⟨false,rfl,by rw[MY MZ];exact⟨false,rfl,q _ (s1.trans s2)⟩⟩
theorem uh(o:CmpOp)(h:wo o=true):∃w z:PV,aq o w z=some false:=by
 cases o
 .exact⟨.int 0,.int 1,rfl⟩
 .exact⟨.int 0,.int 0,rfl⟩
 .exact⟨.int 0,.int 0,rfl⟩
 .exact⟨.int 1,.int 0,rfl⟩
 .exact⟨.int 0,.int 0,rfl⟩
 .exact⟨.int 0,.int 1,rfl⟩
 all_goals cases h
theorem Hy(c:aH X Hi τ a x)(e:x.val=.int i):aH X Hi τ (.UnaryOp .USub a pos) (sc (.int (-i))):=by intro O b H Q R q;refine we (F6 AE aX) ?_;exact c O b H _ R λu H1 s1 r1=>⟨i,r1.int R s1 e,q _ _ s1 zg⟩
theorem Hu(d:aH X Hi τ a x)(e:x.val=.bl b):aH X Hi τ (.UnaryOp .Not a pos) (sc (.bl !b)):=by intro O c H Q R q;refine we (HY aX) ?_;exact d O c H _ R λu H1 s1 r1=>⟨b,r1.bl R s1 e,q _ _ s1 F3⟩
theorem Hr(d:aH X Hi τ a x):aH X Hi τ (.BoolOp b [a] pos) x:=by intro O c H Q R q;exact we (HX aX) (d O c H _ R q)
theorem L4(g:aH X Hi τ a x)(e:x.val=.bl true)(f:aH X Hi τ (.BoolOp .And (b::c) pos) y):aH X Hi τ (.BoolOp .And (a::b::c) pos) y:=by intro O d H Q R q;refine we (BA aX aX) ?_;exact g O d H _ R λu H1 s1 r1=>⟨true,r1.bl R s1 e,sd (f O d H1 _ (R.ext s1) λw H2 s2 r2=>q w H2 (s1.trans s2) (r2.back s1))⟩
theorem L5(f:aH X Hi τ a x)(e:x.val=.bl false):aH X Hi τ (.BoolOp .And (a::b::c) pos) (sc (.bl false)):=by intro O d H Q R q;refine we (BA aX aX) ?_;exact f O d H _ R λu H1 s1 r1=>⟨false,r1.bl R s1 e,sf (q _ _ s1 F3)⟩
theorem or_f(g:aH X Hi τ a x)(e:x.val=.bl false)(f:aH X Hi τ (.BoolOp .Or (b::c) pos) y):aH X Hi τ (.BoolOp .Or (a::b::c) pos) y:=by intro O d H Q R q;refine we (F8 aX aX) ?_;exact g O d H _ R λu H1 s1 r1=>⟨false,r1.bl R s1 e,sf (f O d H1 _ (R.ext s1) λw H2 s2 r2=>q w H2 (s1.trans s2) (r2.back s1))⟩
theorem or_t(f:aH X Hi τ a x)(e:x.val=.bl true):aH X Hi τ (.BoolOp .Or (a::b::c) pos) (sc (.bl true)):=by intro O d H Q R q;refine we (F8 aX aX) ?_;exact f O d H _ R λu H1 s1 r1=>⟨true,r1.bl R s1 e,sd (q _ _ s1 F3)⟩
theorem Ic{t:Bool}(e:fB X Hi τ c t)(h:aH X Hi τ (if t=true then a else b) r):aH X Hi τ (.IfExp c a b pos) r:=by
 intro O d H Q R q;refine we (A9 kF aX aX) ?_;refine e O d H _ R λH1 s1=> ?_;cases t with
 |true=>exact sd ((show aH X Hi τ a r from h) O d H1 _ (R.ext s1) λw H2 s2 r2=>q w H2 (s1.trans s2) (r2.back s1))|false=>exact sf ((show aH X Hi τ b r from h) O d H1 _ (R.ext s1) λw H2 s2 r2=>q w H2 (s1.trans s2) (r2.back s1))
set_option tactic.hygienic true in
theorem AI(h:nH v=some b)(r:Rp X.K Hi false v H u):Jh X.K u H b:=by
 cases v with
 |non=>cases h;rw[Rp.non.mp r];rfl|bl c=>cases h;rw[Rp.bl.mp r];rfl|int i=>cases h;rw[Rp.int.mp r];rfl|str z =>
  have h:(if z.length<=LN then some ((z.length:Int) !=0)else none)=some b:=h
  split at h
  .rename_i c
   cases h;rw[Rp.str.mp r];exact⟨by rwa[eN],rfl⟩
  .cases h
 |lst d =>cases h;obtain⟨p,a,rfl,_,l,r⟩:=Rp.lst.mp r;have:=r.len;exact .inl ⟨a,l,by cases d<;>cases a<;>simp_all⟩
 |tup d =>cases h;obtain⟨p,a,rfl,l,r⟩:=Rp.tup.mp r;have:=r.len;exact .inr (.inl ⟨a,l,by cases d<;>cases a<;>simp_all⟩)
 |dK e f =>cases h;obtain⟨p,a,rfl,_,l,z,r⟩:=r;exact .inr (.inr ⟨_,l,by cases e<;>cases a<;>simp_all⟩)
 |dT e f=>cases h
theorem GX(d:aH X Hi τ e x)(h:nH x.val=some b)(c:∀a,isTrue e X.env a=(do let v<-a;standAt e.pos;holding [v] (truthy v))):fB X Hi τ e b:=by intro O f H Q R q;refine wt (Aw aX c) ?_;exact d O f H _ R λu H1 s1 r1=>⟨b,AI h (r1.val R s1),q _ s1⟩
theorem Ht(d:fB X Hi τ a b):fB X Hi τ (.UnaryOp .Not a pos) !b:=by intro O c H Q R q;exact wt (HH kF) (d O c H _ R λH1 s1=>q _ s1)
def nE(X:Cx)(g:Hp)(h:En)(e:Expr)(b:Bool):Prop:=∀(O:List Addr)(d:L2.St)(H:Hp)(Q:Bool->Hp->Prop),al X.K g O h d H->(∀f,aD H f ->Q b f) -> ∀(c:Sem Value)(a:List (Addr×Obj))(s:Shared),Inv X a d H s->wpAny (model X.prog X.w) X.A (isTrue e X.env c) (TP X a d Q) X.xe s
theorem K0:PW X e (λσ H Q=>∀(b:Sem Value)(a:List (Addr×Obj))(s:Shared),Inv X a σ H s->wpAny (model X.prog X.w) X.A (isTrue e X.env b) (TP X a σ Q) X.xe s):=λwh a s σ H Q I h=>h wh a s I
theorem nE.tc(h:nE X Hi τ e b):fB X Hi τ e b:=λO σ H Q R q pins s I=>h O σ H Q R q _ pins s I
theorem Hq(g:fB X Hi τ a b):nE X Hi τ (.BoolOp e [a] pos) b:=by
 intro O d H Q R q f c s I;cases e with
 |And=>exact wb kF f c s d H Q I (g O d H Q R q)|Or=>exact HC kF f c s d H Q I (g O d H Q R q)
theorem Cy{t:Bool}(h:fB X Hi τ a t)(d:if t=true then nE X Hi τ (.BoolOp .And (b::f) pos) u else u=false):nE X Hi τ (.BoolOp .And (a::b::f) pos) u:=by
 intro O e H Q R q g c s I;refine As kF K0 g c s e H Q I ?_;refine h O e H _ R λH1 s1=> ?_;cases t with
 |true=>exact sd ((show nE X Hi τ _ u from d) O e H1 _ (R.ext s1) λH2 s2=>q _ (s1.trans s2))|false =>subst d;exact sf (q _ s1)
theorem GA{t:Bool}(h:fB X Hi τ a t)(d:if t=true then u=true else nE X Hi τ (.BoolOp .Or (b::f) pos) u):nE X Hi τ (.BoolOp .Or (a::b::f) pos) u:=by
 intro O e H Q R q g c s I;refine K1 kF K0 g c s e H Q I ?_;refine h O e H _ R λH1 s1=> ?_;cases t with
 |false=>exact sf ((show nE X Hi τ _ u from d) O e H1 _ (R.ext s1) λH2 s2=>q _ (s1.trans s2))|true =>subst d;exact sd (q _ s1)
end
end IR
namespace L2
open PySem PySem.Spec PyProof.Rows
section
variable{X:Cx}
inductive L8(K:W.Frag)(H:Hp):V->Value->Prop where
 | of {x:V} {t:Value} (h:jq K H x t):L8 K H x t
 | lst {a:Addr} {xs:List V} (e:bH K H a xs):L8 K H (.ref a) (.type "list")
 | tup {a:Addr} {xs:List V} (e:bT K H a xs):L8 K H (.ref a) (.type "tuple")
set_option tactic.hygienic false
theorem vm:bA X (.builtin "isinstance") (λxs H Q=>∃x c t b,xs=[x,.ty c]/\L8 X.K H x t/\W.kitOne X.K t (.type c)=some b/\Q (.bl b) H):=by
 intro pins s σ H xs us Q I r h;obtain⟨x,c,t,b,rfl,ty,e,q⟩:=h;obtain⟨u,w',rfl,rx,ry⟩:=vals2 r;cases ry;cases ty with
 |of ty=>exact yz I rx ty e λtk=>⟨.bl b,H,I.tok _,rfl,q⟩|lst l =>cases rx;obtain⟨its,r',pl,hz⟩:=I.list l;obtain⟨o,n,h1,h2,_⟩:=pl;exact Ol W.kitx_list I.kIn ⟨o,h1,h2⟩ e (λz=>nomatch z) λtk=>⟨.bl b,H,I.tok _,rfl,q⟩
 |tup l =>cases rx;obtain⟨its,r',⟨o,h1,h2,_⟩,hz⟩:=I.tuple l;exact Ol W.kitx_tuple I.kIn ⟨o,h1,h2⟩ e (λz=>nomatch z) λtk=>⟨.bl b,H,I.tok _,rfl,q⟩
end
section
variable{K:W.Frag}
set_option tactic.hygienic false
theorem kits:(W.kitOne K (.type "NoneType") (.type "int")=some false/\W.kitOne K (.type "NoneType") (.type "str")=some false/\W.kitOne K (.type "NoneType") (.type "list")=some false/\W.kitOne K (.type "NoneType") (.type "tuple")=some false/\W.kitOne K (.type "NoneType") (.type "bool")=some false) /\ (W.kitOne K (.type "bool") (.type "int")=some true/\W.kitOne K (.type "bool") (.type "str")=some false/\W.kitOne K (.type "bool") (.type "list")=some false/\W.kitOne K (.type "bool") (.type "tuple")=some false) /\ (W.kitOne K (.type "int") (.type "bool")=some false/\W.kitOne K (.type "int") (.type "str")=some false/\W.kitOne K (.type "int") (.type "list")=some false/\W.kitOne K (.type "int") (.type "tuple")=some false) /\ (W.kitOne K (.type "str") (.type "bool")=some false/\W.kitOne K (.type "str") (.type "int")=some false/\W.kitOne K (.type "str") (.type "list")=some false/\W.kitOne K (.type "str") (.type "tuple")=some false) /\ (W.kitOne K (.type "list") (.type "bool")=some false/\W.kitOne K (.type "list") (.type "int")=some false/\W.kitOne K (.type "list") (.type "str")=some false/\W.kitOne K (.type "list") (.type "tuple")=some false) /\ (W.kitOne K (.type "tuple") (.type "bool")=some false/\W.kitOne K (.type "tuple") (.type "int")=some false/\W.kitOne K (.type "tuple") (.type "str")=some false/\W.kitOne K (.type "tuple") (.type "list")=some false) /\ (W.kitOne K (.type "dict") (.type "bool")=some false/\W.kitOne K (.type "dict") (.type "int")=some false/\W.kitOne K (.type "dict") (.type "str")=some false/\W.kitOne K (.type "dict") (.type "list")=some false/\W.kitOne K (.type "dict") (.type "tuple")=some false):=by refine⟨⟨?_,?_,?_,?_,?_⟩,⟨?_,?_,?_,?_⟩,⟨?_,?_,?_,?_⟩,⟨?_,?_,?_,?_⟩,⟨?_,?_,?_,?_⟩,⟨?_,?_,?_,?_⟩,⟨?_,?_,?_,?_,?_⟩⟩<;>kernel_rfl
end
end L2
namespace IR
open PySem PySem.Spec PyProof.Rows L2
section
variable{X:Cx}{Hi:Hp}{τ:En}
set_option tactic.hygienic false
theorem aR(h:isStar e=false):starEach (e::b) a=(false,eval e a)::starEach b a:=by cases e<;>first|rfl|cases h
theorem iE{a:Env}{pos:Pos}:∀{b:List Expr},(∀e∈b,isStar e=false)->(backTo pos (starEach b a)).any (·.1)=false
 |[],_=>rfl|e::b,h=>by rw[aR (h e MX)];show(false||(backTo pos (starEach b a)).any (·.1))=false;rw[iE λx hx=>h x (MW _ hx)];rfl
theorem Jc:qI X Hi τ [] []:=by intro O a H Q R q;exact wa aK (q _ _ (aD.refl _) rfl)
theorem Fj(g:aH X Hi τ e r)(f:isStar e=false)(d:qI X Hi τ c a):qI X Hi τ (e::c) (r::a):=by intro O b H Q R q;refine wa (aF aX uz (aR f)) ?_;refine g O b H _ R λu H1 s1 r1=>d O b H1 _ (R.ext s1) λus H2 s2 r2=> ?_;exact q _ _ (s1.trans s2) ⟨u,us,rfl,r1.ext s2,r2.back s1⟩
theorem ID(h:qI X Hi τ b a)(g:keeps a=some (c,n))(e:mf c n=some r):aH X Hi τ (.List b pos) r:=by obtain⟨d,rfl⟩:=xA e;intro O f H Q R q;refine we (gW uz) ?_;refine h O f H _ R λus H1 s1 r1=> ?_;have k:=r1.keeps R s1 g;exact⟨by rwa[eN,<-k.len],λp hp=>q _ _ (s1.trans (aI hp _)) (eh s1 hp k)⟩
theorem GZ(h:qI X Hi τ b a)(g:keeps a=some (c,n))(e:pK c n=some r):aH X Hi τ (.Tuple b m pos) r:=by obtain⟨d,rfl⟩:=w9 e;intro O f H Q R q;refine we (uw uz) ?_;refine h O f H _ R λus H1 s1 r1=> ?_;have k:=r1.keeps R s1 g;exact⟨by rwa[eN,<-k.len],λp hp=>q _ _ (s1.trans (aI hp _)) (Rp.tup.mpr ⟨p,us,rfl,bT.of (pd R s1 hp),k.mono (aO (aI hp _))⟩)⟩
theorem E6:aH X Hi τ (.Dict [] [] pos) (.owd (.dK []) [] true):=by intro O b H Q R q;refine we rj ?_;intro p a;exact q _ _ (aI a _) ⟨p,[],_,rfl,a,aB,⟨rfl,rfl⟩,.nil⟩
set_option tactic.hygienic true in
theorem xZ{k:ag}(y:PE X m l)(j:∀d H Q,Q (kV k) H->l d H Q)(h:aH X Hi τ v r)(x:r.keep=some (w,n))(C:imm w=true):aH X Hi τ (.Dict [some m] [v] pos) (.owd (.dK [k]) [w] true):=by
 intro O d H Q R q;refine we (D5 (A0 y aX Dy) rfl rfl (by intro z;cases z) (by show 1<=15;decide)) ?_;intro p f;have i:=aI f (.dK []);refine j d _ _ ?_;refine h O d _ _ (R.ext i) λu H2 s2 r2=> ?_;refine⟨s2 _ _ aB,[(k,u)],rfl,by show 1<=15;decide,?_⟩;have e:gZ [] [(k,u)]=[(k,u)]:=by simp[gZ,dv]
 have A:aD H (L2.upd H2 p (.dK [(k,u)])):=λb o z=>by rw[aA (aE z f)];exact s2 _ _ (i _ _ z)
 refine q _ _ A ⟨p,[u],_,rfl,f,aB,⟨rfl,rfl⟩,.cons (Rp.imm C ⟨λb xs z=> ?_,λb o xs z=> ?_⟩ (r2.keep (R.ext i) s2 x)) .nil⟩
 .have a:b≠p:=λc=>by
   subst c;have:=aQ _ _ z;rw[s2 _ _ aB]at this;cases this
  unfold aV at z ⊢
  split at z;cases z
  .rename_i g
   rw[MY g];unfold del;rwa[MY a,aA a]
 .have a:b≠p:=λc=>by
   subst c;have:=aQ _ _ z;rw[s2 _ _ aB]at this;cases this
  unfold aV at z ⊢
  split at z;cases z
  .rename_i g
   rw[MY g];unfold del;rwa[MY a,aA a]
def ir(O:List Addr)(G:Hp):Prop:=∀l∈O,(∀a,G l≠some (.tup a))/\∀o a,G l≠some (.frz o (.tup a))
theorem Mo.noTup{o:HO}{G:Hp}(m:Mo o)(e:G l=some o):(∀a,G l≠some (.tup a))/\∀o a,G l≠some (.frz o (.tup a)):=by obtain⟨b,c,m⟩:=m;refine⟨λxs z=> ?_,λo a z=> ?_⟩<;>(rw[e]at z;cases z;cases b<;>first|cases m.1|cases m)
theorem ir.del{G:Hp}(h:ir O G):ir O (IR.del G p):=λl hl=>by
 refine⟨λxs e=> ?_,λo xs e=> ?_⟩
 .unfold IR.del at e
  split at e;cases e;exact(h l hl).1 xs e
 .unfold IR.del at e
  split at e;cases e;exact(h l hl).2 o xs e
theorem ir.tups{G:Hp}(h:ir O G):wA G (aV G O):=by
 refine⟨λb xs e=> ?_,λb o xs e=> ?_⟩
 .unfold aV
  rwa[MY λz=>(h b z).1 xs e]
 .unfold aV
  rwa[MY λz=>(h b z).2 o xs e]
set_option tactic.hygienic true
mutual
theorem Rp.avoid{K:W.Frag}{Hj:Hp}{O:List Addr}(hO:∀l∈O,Hj l≠none):∀{v:PV}{G:Hp}{u:V},ir O G->Rp K Hj true v G u->Rp K Hj true v (aV G O) u
 | .non,_,_,_,h=>h
 | .bl _,_,_,_,h=>h
 | .int _,_,_,_,h=>h
 | .str _,_,_,_,h=>h
 | .lst xs,G,_,t,h=>by
  show∃_,_;obtain⟨p,us,e,q,l,r⟩:=h;obtain⟨q1,q2⟩:=q rfl;have q3:aV G O p=some (.lst us):=by
   unfold aV;rw[MY fun z=>hO p z q1];exact q2
  exact⟨p,us,e,fun _=>⟨q1,q3⟩,bH.of q3,by rw[<- iJ];exact aG.avoid hO t.del r⟩
 | .tup xs,_,_,t,h=>by
  show∃_,_;obtain⟨p,us,e,l,r⟩:=h;exact⟨p,us,e,t.tups.at l,aG.avoid hO t r⟩
 | .dK ks vs,G,_,t,h=>by
  show∃_,_;obtain⟨p,us,e,q,l,z,r⟩:=h;refine⟨p,us,e,q,?_,z,by rw[<- iJ];exact aG.avoid hO t.del r⟩;unfold aV;rw[MY fun z=>hO p z (q rfl)];exact l
 | .dT ks vs,G,_,t,h=>by
  show∃_,_;obtain⟨p,us,e,q,l,z,r⟩:=h;refine⟨p,us,e,q,?_,z,by rw[<- iJ];exact aG.avoid hO t.del r⟩;unfold aV;rw[MY fun z=>hO p z (q rfl)];exact l
theorem aG.avoid{K:W.Frag}{Hj:Hp}{O:List Addr}(hO:∀l∈O,Hj l≠none):∀{xs:List PV}{G:Hp}{us:List V},ir O G->aG K Hj true xs G us->aG K Hj true xs (aV G O) us
 | [],_,_,_,h=>h
 | x::xs,_,_,t,h=>by
  show∃_,_;obtain⟨u,r,e,a,b⟩:=h;exact⟨u,r,e,Rp.avoid hO t a,aG.avoid hO t b⟩
end
set_option tactic.hygienic false
theorem DU(R:al X.K Hi O τ m H)(c:aD H b)(s:aD b a)(h:Rp X.K b true v a u):af X.K Hi O H a (oh v) u:=by
 have g:∀p,b p=none->Hi p=none:=λp hp=>R.same.free (c.free hp);have j:∀l∈O,b l≠none:=λl hl z=>by obtain⟨d,e,_⟩:=(R.own l hl).2;rw[c _ _ e]at z;cases z
 have i:ir O a :=λl hl=>by obtain⟨d,e,o⟩:=(R.own l hl).2;have w :=s _ _ (c _ _ e);exact o.noTup w
 cases v with
 |lst y =>obtain⟨p,d,e,q,l,r⟩:=Rp.lst.mp h;obtain⟨x,n⟩:=q rfl;exact⟨p,d,e,c.free x,n,(aG.avoid j i.del r).entry λ_=>g⟩
 |_=>exact (Rp.avoid j i h).entry λ_=>g
theorem call_ok{ct:Ct}(C:bh d X ct)(w:wy x=false)(A:ct.S.lookup x=some .globalImplicit)(u:ct.F.lookup x=some f)
  (i:∀a∈e::c,isStar a=false) (s:qI X Hi τ (e::c) h) (m:d f (h.map RV.val)=some v):aH X Hi τ (.Call (.Name x p) (e::c) [] pos) (oh v):=by
 intro O l H Q R q;obtain⟨k,a,E,D,F,j,n,o,y⟩:=C.fns x f u;have g:Gl X x:=by show X.env.scope.names.lookup x=_;rwa[C.S]
 refine we (D9 F j g n o y .nil K7 uz (dA w).1 (aR (i e MX)) (iE λb hb=>i b (MW _ hb))) ?_;refine s O l H _ R λus H1 s1 r1=> ?_;rw[NP];exact⟨_,v,(r1.vals R s1).entry (λz=>by cases z),m,λu H' s' ru=>q _ _ (s1.trans s') (DU R s1 s' ru)⟩
theorem dE{ct:Ct}(C:bh a X ct)(h:own ct x=true):Gl X x/\X.mg x=none:=by
 unfold own at h;rw[Mb]at h;refine⟨?_,C.bl x h.1⟩;show X.env.scope.names.lookup x=_;rw[C.S]
 simpa using h.2
theorem j9{ct:Ct}(C:bh m X ct)(s:bA X (.builtin j) f)(v:own ct x=true)(n:bootBuiltins x=some (.builtin j))(i:wy x=false)(h:isStar a=false)(o:aH X Hi τ a e)
  (k:∀(O:List Addr)(c:L2.St)(H d:Hp)(u:V)(Q:VK),al X.K Hi O τ c H->aD H d->af X.K Hi O H d e u->(∀w b,aD d b->af X.K Hi O H b r w->Q w b)->f [u] d Q):aH X Hi τ (.Call (.Name x p) [a] [] pos) r:=by
 intro O c H Q R q;obtain⟨g,l⟩:=dE C v;refine we (aw s g l n (aF aX aK (aR h)) (dA i).2.2 (dA i).1 (aR h) rfl) ?_;exact o O c H _ R λu H1 s1 r1=>k O c H H1 u Q R s1 r1 λw b s3 r3=>q w b (s1.trans s3) r3
theorem wM{ct:Ct}(C:bh m X ct)(s:bA X (.type j) f)(v:own ct x=true)(n:bootBuiltins x=some (.type j))(i:wy x=false)(h:isStar a=false)(o:aH X Hi τ a e)
  (k:∀(O:List Addr)(c:L2.St)(H d:Hp)(u:V)(Q:VK),al X.K Hi O τ c H->aD H d->af X.K Hi O H d e u->(∀w b,aD d b->af X.K Hi O H b r w->Q w b)->f [u] d Q):aH X Hi τ (.Call (.Name x p) [a] [] pos) r:=by
 intro O c H Q R q;obtain⟨g,l⟩:=dE C v;refine we (bw s g l n (aF aX aK (aR h)) (dA i).2.2 (dA i).1 (aR h) rfl) ?_;exact o O c H _ R λu H1 s1 r1=>k O c H H1 u Q R s1 r1 λw b s3 r3=>q w b (s1.trans s3) r3
theorem b2_go{ct:Ct}(C:bh z X ct)(h:bA X (.builtin s) m)(E:own ct x=true)(A:bootBuiltins x=some (.builtin s))(o:wy x=false)(n:isStar a=false)(d:isStar b=false)(D:aH X Hi τ a j)(i :aH X Hi τ b l)
  (k:∀(O:List Addr)(e:L2.St)(H c:Hp)(u v:V)(Q:VK),al X.K Hi O τ e H->aD H c->af X.K Hi O H c j u->af X.K Hi O H c l v->(∀w f,aD c f->af X.K Hi O H f r w->Q w f)->m [u,v] c Q):aH X Hi τ (.Call (.Name x p) [a,b] [] pos) r:=by
 intro O e H Q R q;obtain⟨g,y⟩:=dE C E;refine we (aw h g y A (aF aX (aF aX aK (aR d)) (aR n)) (dA o).2.2 (dA o).1 (aR n) (iE λc h=>by simp at h;subst h;exact d)) ?_;exact D O e H _ R λu H1 s1 r1=>i O e H1 _ (R.ext s1) λv c s2 r2=>k O e H c u v Q R (s1.trans s2) (r1.ext s2) (r2.back s1) λw f s3 r3=>q w f (s1.trans (s2.trans s3)) r3
theorem uA:∀{f:List PV}{d:List Bool}{H:Hp}{g:List V},iZ f=some d->aG X.K Hi false f H g->g=d.map V.bl
 |[],d,_,_,h,r=>by cases h;exact r|x::f,d,_,_,h,r=>by
  obtain⟨u,j,rfl,a,b⟩:=r;cases x with
  |bl c =>
   have h:(iZ f).map (c::·)=some d:=h;cases e:iZ f with
   |none=>rw[e]at h;cases h|some i =>rw[e]at h;cases h;rw[Rp.bl.mp a,uA e b];rfl
  |_=>cases h
theorem eV:∀{f:List PV}{d:List Int}{H:Hp}{g:List V},aY f=some d->aG X.K Hi false f H g->g=d.map V.int
 |[],d,_,_,h,r=>by cases h;exact r|x::f,d,_,_,h,r=>by
  obtain⟨u,j,rfl,a,b⟩:=r;cases x with
  |int c =>
   have h:(aY f).map (c::·)=some d:=h;cases e:aY f with
   |none=>rw[e]at h;cases h|some i =>rw[e]at h;cases h;rw[Rp.int.mp a,eV e b];rfl
  |_=>cases h
set_option tactic.hygienic true
theorem Ie{t:String}(h:bi t v=some b)(r:Rp X.K Hi false v H u):∃c,L8 X.K H u c/\W.kitOne X.K c (.type t)=some b:=by
 obtain⟨⟨j,C,E,M,A⟩,⟨w,f,Q,U⟩,⟨s,N,q,I⟩,⟨L,R,J,g⟩,⟨D,o,Y,z⟩,⟨n,m,S,y⟩,⟨d1,T,Z,O,i⟩⟩:= @kits X.K;cases v with
 |non =>
  rw[Rp.non.mp r];refine⟨_,.of .non,?_⟩;simp only[bi]at h
  split at h
  .rename_i c
   cases h
   rcases c with rfl|rfl|rfl|rfl|rfl<;>assumption
  .cases h
 |bl x =>
  rw[Rp.bl.mp r];refine⟨_,.of (.bl x),?_⟩;simp only[bi]at h
  split at h
  .rename_i c
   cases h
   rcases c with rfl|rfl
   .assumption
   .exact fV _
  .split at h
   .rename_i c
    cases h
    rcases c with rfl|rfl|rfl<;>assumption
   .cases h
 |int x =>
  rw[Rp.int.mp r];refine⟨_,.of (.int x),?_⟩;simp only[bi]at h
  split at h
  .rename_i c
   cases h;subst c;exact fV _
  .split at h
   .rename_i c
    cases h
    rcases c with rfl|rfl|rfl|rfl<;>assumption
   .cases h
 |str x =>
  rw[Rp.str.mp r];refine⟨_,.of (.str x),?_⟩;simp only[bi]at h
  split at h
  .rename_i c
   cases h;subst c;exact fV _
  .split at h
   .rename_i c
    cases h
    rcases c with rfl|rfl|rfl|rfl<;>assumption
   .cases h
 |lst x =>
  obtain⟨p,a,rfl,_,l,_⟩:=Rp.lst.mp r;refine⟨_,.lst l,?_⟩;simp only[bi]at h
  split at h
  .rename_i c
   cases h;subst c;exact fV _
  .split at h
   .rename_i c
    cases h
    rcases c with rfl|rfl|rfl|rfl<;>assumption
   .cases h
 |tup x =>
  obtain⟨p,a,rfl,l,_⟩:=Rp.tup.mp r;refine⟨_,.tup l,?_⟩;simp only[bi]at h
  split at h
  .rename_i c
   cases h;subst c;exact fV _
  .split at h
   .rename_i c
    cases h
    rcases c with rfl|rfl|rfl|rfl<;>assumption
   .cases h
 |dK e d =>
  obtain⟨p,a,rfl,_,l,_⟩:=r;refine⟨_,.of (.dK l),?_⟩;simp only[bi]at h
  split at h
  .rename_i c
   cases h
   rcases c with rfl|rfl|rfl|rfl|rfl<;>assumption
  .cases h
 |dT e d=>cases h
theorem FO{t:Str}(h:AG t=some a):bootBuiltins t=some (.type a)/\wy t=false:=by
 unfold AG at h
 split at h
 .rename_i c;cases h;rw[Mz c];exact⟨PyProof.Rows.boot_int,by decide⟩
 split at h
 .rename_i c;cases h;rw[Mz c];exact⟨PyProof.Rows.boot_bool,by decide⟩
 split at h
 .rename_i c;cases h;rw[Mz c];exact⟨PyProof.Rows.boot_str,by decide⟩
 split at h
 .rename_i c;cases h;rw[Mz c];exact⟨PyProof.Rows.boot_list,by decide⟩
 split at h
 .rename_i c;cases h;rw[Mz c];exact⟨PyProof.Rows.boot_tuple,by decide⟩
 cases h
set_option tactic.hygienic false
theorem isin_ok{ct:Ct}(C:bh s X ct){t:Str}(z:own ct ("isinstance":Str)=true)(n:AG t=some j)(f:own ct t=true)(m:isStar a=false)(w:aH X Hi τ a l)(h:bi j l.val=some b) :
  aH X Hi τ (.Call (.Name "isinstance" p) [a,.Name t x] [] pos) (sc (.bl b)):=by
 intro O o H Q R q;obtain⟨g,r⟩:=dE C z;obtain⟨y,i⟩:=dE C f;obtain⟨v,d⟩:=FO n;refine we (aw vm g r Pj (aF aX (aF (F7 y i v (dA d).2.2 (dA d).1) aK) (aR m)) (by decide) (by decide) (aR m) rfl) ?_;refine w O o H _ R λu H1 s1 r1=> ?_;obtain⟨c,e,k⟩:=Ie h (r1.val R s1);exact⟨u,j,c,b,rfl,e,k,q _ _ s1 F3⟩
end
end IR
namespace L2
open PySem PySem.Spec PyProof.Rows
end L2
namespace IR
open PySem L2
section
variable{X:Cx}{Hi:Hp}{τ:En}
set_option tactic.hygienic false
theorem pC(h:hX x=some q):x=aN q:=by
 cases x with
 |tup xs =>
  have h:((aY xs).bind λns=>match ns with
   |[a,b]=>some (a,b)|_=>none)=some q:=h
  cases e:aY xs with
  |none=>rw[e]at h;cases h|some ns =>
   rw[e]at h
   match ns,h with
   |[a,b],h =>
    cases h;have:xs=[PV.int a,PV.int b]:=by
     have key:∀xs ns,aY xs=some ns->xs=ns.map PV.int:=by
      intro xs
      induction xs with
      |nil=>intro ns z;cases z;rfl|cons y r ih =>
       intro ns z;cases y with
       |int i =>
        have z:(aY r).map (i::·)=some ns:=z;cases e2:aY r with
        |none=>rw[e2]at z;cases z|some m=>rw[e2]at z;cases z;rw[ih m e2];rfl
       |_=>cases z
     exact key xs _ e
    subst this;rfl
 |_=>cases h
theorem rX:∀{c:List PV}{a:List (Int×Int)},hV c=some a->c=a.map aN
 |[],_,h=>by cases h;rfl|x::r,a,h=>by
  have h:((hX x).bind λq=>(hV r).map (q::·))=some a:=h;cases e:hX x with
  |none=>rw[e]at h;cases h|some q =>
   rw[e]at h;cases b:hV r with
   |none=>rw[b]at h;cases h|some m =>rw[b]at h;cases h;rw[pC e,rX b];rfl
theorem aG.prs{n:Bool}{H:Hp}:∀{b:List (Int×Int)}{a:List V},aG X.K Hi n (b.map aN) H a->Jl X.K H a b
 |[],a,h=>by
  have h:a=[]:=by exact h
  subst h;exact .nil
 |q::b,a,h=>by
  obtain⟨u,r,rfl,f,d⟩:=h;obtain⟨p,c,rfl,l,g⟩:=Rp.tup.mp f;have e:c=[V.int q.1,V.int q.2]:=by have:=(aG.ints (xs:=[q.1,q.2])).mp g;exact this
  subst e;exact .cons l (aG.prs d)
theorem aG.pick{n:Bool}{H:Hp}{d:List PV}{a:List V}(r:aG X.K Hi n d H a):∀{b:List Nat},(∀j∈b,j<a.length)->aG X.K Hi n (b.map λi=>d.getD i .non) H (b.map λi=>a.getD i .non)
 |[],_=>.nil|j::b,h=>by have c:=h j MX;obtain⟨x,f,e⟩:=r.at' (Mk c);refine .cons ?_ (aG.pick r λi hi=>h i (MW _ hi));dsimp only;rwa[Mf,f,Mf,Mk c]
theorem cv(a:List (Int×Int)):(cw a).Perm a:=List.mergeSort_perm _ _
theorem rB(d:List (Int×Int)):(cw d).Pairwise λa b=>SW.dz a<=SW.dz b:=by have:=List.pairwise_mergeSort (le:=λa b:Int×Int=>decide (SW.dz a<=SW.dz b)) (λa b c h1 h2=>by simp only[Nc]at *;omega) (λa b=>by simp only[N0,Nc];omega) d;exact this.imp λh=>by simpa using h
theorem Be(c:0<=a.2/\a.2<1000)(d:0<=b.2/\b.2<1000)(h:SW.dz a=SW.dz b):a=b:=by unfold SW.dz at h;exact Prod.ext (by omega) (by omega)
theorem oo(e:∀q∈c,0<=q.2/\q.2<1000)(p:d.Perm c)(s:d.Pairwise λa b=>SW.dz a<=SW.dz b):d=cw c := P0 (λa b ha hb' h1 h2=>Be (e _ (p.mem_iff.mp ha)) (e _ ((cv c).mem_iff.mp hb')) (by omega)) s (rB c) (p.trans (cv c).symm)
theorem uq{b:Type}(d:b)(a:List b):(List.range a.length).map (λi=>a.getD i d)=a:=by
 apply List.ext_getElem (by simp)
 intro i e c;simp[c]
theorem ba:∀a:List (Int×Int),imms (a.map aN)=true
 |[]=>rfl|q::a=>by show(imm (aN q)&&imms (a.map aN))=true;rw[ba a];rfl
set_option tactic.hygienic true in
theorem AW{ct:Ct}(C:bh z X ct)(L:own ct ("sorted":Str)=true)(J:isStar a=false)(E:aH X Hi τ a m)(e:m.val=.lst f)(h:rA f=some r) :
  aH X Hi τ (.Call (.Name "sorted" p) [a] [] pos) r:=by
 unfold rA at h;cases g:hV f with
 |none=>rw[g]at h;cases h|some b =>
  rw[g]at h;have h:(if b.length<64/\b.all (λq=>decide (0<=q.2)&&decide (q.2<1000))=true then some (RV.own ((cw b).map aN) true)else none)=some r:=h
  split at h
  .rename_i c
   cases h;refine j9 C iX L PyProof.Rows.boot_sorted (by decide) J E λO σ H H2 u Q R s r q=> ?_;obtain⟨p,o,rfl,l,r⟩:=r.lst R s e;have y:=rX g;subst y;have n:=r.prs;have A:=n.len;have v:=λq hq=>by
    have:=Mn.mp c.2 q hq
    simpa using this
   refine⟨p,o,b,rfl,l,n,by omega,v,λd js hd pm pw=>q _ _ (aI hd _) (eh s hd ?_)⟩;have d:∀j∈js,j<o.length:=λj d=>ND.mp (pm.mem_iff.mp d);have x:js.map (λi=>b.getD i (0,0))=cw b:=by
    refine oo v ?_ ?_
    .have:=pm.map λi=>b.getD i (0,0)
     rwa[A,uq]at this
    .rw[Oh]at pw ⊢
     exact pw
   have I:js.map (λi=>(b.map aN).getD i .non)=(cw b).map aN:=by
    rw[<- x,M4];refine NO λi hi=> ?_;have:=d i hi;have D:i<b.length:=by omega
    simp[D]
   have w:=r.pick d;rw[I]at w;exact w.imm (ba _) (R.ext s).tups
  .cases h
end
end IR
namespace IR
open PySem PySem.Spec PyProof.Rows L2
section
variable{X:Cx}{Hi:Hp}{τ:En}
theorem BS{o:Nat->List PV->Option PV}{ct:Ct}(C:bh o X ct)(g:own ct ("len":Str)=true)(f:isStar a=false)(d:aH X Hi τ a i)(h:fD i.val=some n) :
  aH X Hi τ (.Call (.Name "len" p) [a] [] pos) (sc (.int n)):=by
 cases e:i.val with
 |str z =>
  rw[e]at h;have h:(if z.length<=LN then some z.length else none)=some n:=h
  split at h
  .rename_i c
   cases h;exact j9 C iY g On (by decide) f d λO σ H H2 u Q R s r q=>⟨z,by rw[r.str R s e],by rwa[eN],q _ _ (aD.refl _) zg⟩
  .cases h
 |lst m =>rw[e]at h;cases h;refine j9 C cY g On (by decide) f d λO σ H H2 u Q R s r q=> ?_;obtain⟨p,b,rfl,l,r⟩:=r.lst R s e;exact⟨p,b,rfl,.inl l,by rw[<- r.len];exact q _ _ (aD.refl _) zg⟩
 |tup m =>rw[e]at h;cases h;refine j9 C cY g On (by decide) f d λO σ H H2 u Q R s r q=> ?_;obtain⟨p,b,rfl,l,r⟩:=r.tup R s e;exact⟨p,b,rfl,.inr l,by rw[<- r.len];exact q _ _ (aD.refl _) zg⟩
 |dK j x =>
  rw[e]at h;cases h;refine j9 C vk g On (by decide) f d λO σ H H2 u Q R s r q=> ?_;have z:=r.val R s;rw[e]at z;obtain⟨p,b,rfl,_,v,w,_⟩:=z;refine⟨p,_,rfl,.inl v,?_⟩;have:(j.zip b).length=j.length:=by rw[List.length_zip,<-w,Pn]
  rw[this];exact q _ _ (aD.refl _) zg
 |_=>rw[e]at h;cases h
theorem jo{k:Nat}(h:uG x k=some f):(x="len"/\k=1/\f=.len)\/(x="int"/\k=1/\f=.int)\/(x="list"/\k=1/\f=.list)\/(x="tuple"/\k=1/\f=.tuple)\/(x="all"/\k=1/\f=.all)\/(x="min"/\k=2/\f=.min)\/(x="max"/\k=2/\f=.max)\/(x="abs"/\k=1/\f=.abs)\/(x="any"/\k=1/\f=.any)\/(x="sum"/\k=1/\f=.sum)\/(x="sorted"/\k=1/\f=.sorted):=by
 unfold uG at h
 split at h
 .rename_i c;rw[Mb]at c;cases h;exact .inl ⟨Mz c.1,Mz c.2,rfl⟩
 split at h
 .rename_i c;rw[Mb]at c;cases h;exact .inr (.inl ⟨Mz c.1,Mz c.2,rfl⟩)
 split at h
 .rename_i c;rw[Mb]at c;cases h;exact .inr (.inr (.inl ⟨Mz c.1,Mz c.2,rfl⟩))
 split at h
 .rename_i c;rw[Mb]at c;cases h;exact .inr (.inr (.inr (.inl ⟨Mz c.1,Mz c.2,rfl⟩)))
 split at h
 .rename_i c;rw[Mb]at c;cases h;exact .inr (.inr (.inr (.inr (.inl ⟨Mz c.1,Mz c.2,rfl⟩))))
 split at h
 .rename_i c;rw[Mb]at c;cases h;exact .inr (.inr (.inr (.inr (.inr (.inl ⟨Mz c.1,Mz c.2,rfl⟩)))))
 split at h
 .rename_i c;rw[Mb]at c;cases h;exact .inr (.inr (.inr (.inr (.inr (.inr (.inl ⟨Mz c.1,Mz c.2,rfl⟩))))))
 split at h
 .rename_i c;rw[Mb]at c;cases h;exact .inr (.inr (.inr (.inr (.inr (.inr (.inr (.inl ⟨Mz c.1,Mz c.2,rfl⟩)))))))
 split at h
 .rename_i c;rw[Mb]at c;cases h;exact .inr (.inr (.inr (.inr (.inr (.inr (.inr (.inr (.inl ⟨Mz c.1,Mz c.2,rfl⟩))))))))
 split at h
 .rename_i c;rw[Mb]at c;cases h;exact .inr (.inr (.inr (.inr (.inr (.inr (.inr (.inr (.inr (.inl ⟨Mz c.1,Mz c.2,rfl⟩)))))))))
 split at h
 .rename_i c;rw[Mb]at c;cases h;exact .inr (.inr (.inr (.inr (.inr (.inr (.inr (.inr (.inr (.inr (⟨Mz c.1,Mz c.2,rfl⟩))))))))))
 cases h
theorem bf1_ok{ct:Ct}(C:bh D X ct)(o:own ct x=true)(A:mS x 1=some f)(m:isStar a=false)(g:aH X Hi τ a d)(h:mR f [d]=some r) :
  aH X Hi τ (.Call (.Name x p) [a] [] pos) r:=by
 rcases jo A with⟨rfl,_,rfl⟩|⟨rfl,_,rfl⟩|⟨rfl,_,rfl⟩|⟨rfl,_,rfl⟩|⟨rfl,_,rfl⟩|⟨_,z,_⟩|⟨_,z,_⟩|⟨rfl,_,rfl⟩|⟨rfl,_,rfl⟩|⟨rfl,_,rfl⟩|⟨rfl,_,rfl⟩
 .have h:(fD d.val).map (λn=>sc (.int (n:Nat)))=some r:=h
  cases e:fD d.val with
  |none=>rw[e]at h;cases h|some n =>rw[e]at h;cases h;exact BS C o m g e
 .unfold mR at h
  cases e:d.val with
  |int i =>simp only[e]at h;cases h;exact wM C oN o PyProof.Rows.boot_int (by decide) m g λO σ H H2 u Q R s r q=>.inl ⟨i,by rw[r.int R s e],q _ _ (aD.refl _) zg⟩
  |bl i =>simp only[e]at h;cases h;exact wM C oN o PyProof.Rows.boot_int (by decide) m g λO σ H H2 u Q R s r q=>.inr ⟨i,by rw[r.bl R s e],q _ _ (aD.refl _) zg⟩
  |_=>simp only[e]at h;cases h
 .have h:(match d.its with|some (b,n)=>some (RV.own b n)|none=>none)=some r:=h
  cases e:d.its with
  |none=>rw[e]at h;cases h|some w =>obtain⟨b,n⟩:=w;rw[e]at h;cases h;refine wM C qA o PyProof.Rows.boot_list (by decide) m g λO σ H H2 u Q R s r q=> ?_;obtain⟨p,v,rfl,l,r⟩:=r.its R s e;exact⟨p,v,rfl,l.imp (·.1) (·.1),λl2 hl=>q _ _ (aI hl _) (eh s hl r)⟩
 .have h:(match d.its with|some (b,n)=>some (RV.frz (.tup b) n)|none=>none)=some r:=h
  cases e:d.its with
  |none=>rw[e]at h;cases h|some w =>
   obtain⟨b,n⟩:=w;rw[e]at h;cases h;refine wM C gM o PyProof.Rows.boot_tuple (by decide) m g λO σ H H2 u Q R s r q=> ?_;obtain⟨p,v,rfl,l,r⟩:=r.its R s e;refine⟨p,v,rfl,l.imp (λl=>⟨l.1,λl2 hl=> ?_⟩) (λl=>⟨l.1,?_⟩)⟩
   .exact q _ _ (aI hl _) (Rp.tup.mpr ⟨l2,v,rfl,bT.of (pd R s hl),r.mono (aO (aI hl _))⟩)
   .exact q _ _ (aD.refl _) (Rp.tup.mpr ⟨p,v,rfl,pc R s l.1,r⟩)
 .unfold mR at h
  cases e:d.val with
  |lst b =>
   simp only[e]at h;cases j:iZ b with
   |none=>rw[j]at h;cases h|some y =>rw[j]at h;cases h;refine j9 C (t9 C.calm) o boot_all (by decide) m g λO σ H H2 u Q R s r q=> ?_;obtain⟨p,v,rfl,l,r⟩:=r.lst R s e;have:=uA j r;subst this;exact⟨p,y,rfl,l,q _ _ (aD.refl _) F3⟩
  |_=>simp only[e]at h;cases h
 .cases z
 .cases z
 .exact absurd (show none=some r from h) (by simp)
 .exact absurd (show none=some r from h) (by simp)
 .have h:(match d.val with
   | .lst b=>(aY b).map λns=>sc (.int ns.sum)|_=>none)=some r:=h
  cases e:d.val with
  |lst b =>
   simp only[e]at h;cases j:aY b with
   |none=>rw[j]at h;cases h|some y =>rw[j]at h;cases h;refine j9 C (nC C.calm) o boot_sum (by decide) m g λO σ H H2 u Q R s r q=> ?_;obtain⟨p,v,rfl,l,r⟩:=r.lst R s e;have:=eV j r;subst this;exact⟨p,y,rfl,l,q _ _ (aD.refl _) zg⟩
  |_=>simp only[e]at h;cases h
 .have h:(match d.val with
   | .lst b=>km b|_=>none)=some r:=h
  cases e:d.val with
  |lst b =>
   simp only[e]at h;unfold km at h;cases j:aY b with
   |none =>rw[j]at h;exact AW C o m g e h
   |some y =>
    rw[j]at h;have h:(if y.length<64 then some (RV.own ((L2.sortI y).map PV.int) true)else none)=some r:=h
    split at h
    .rename_i c
     cases h;refine j9 C ji o boot_sorted (by decide) m g λO σ H H2 u Q R s r q=> ?_;obtain⟨p,v,rfl,l,r⟩:=r.lst R s e;have:=eV j r;subst this;exact⟨p,y,rfl,l,c,λa g=>q _ _ (aI g _) (eh s g (aG.ints.mpr rfl))⟩
    .cases h
  |_=>simp only[e]at h;cases h
set_option tactic.hygienic false
theorem JX{A:Nat->List PV->Option PV}{ct:Ct}(C:bh A X ct)(y:own ct x=true)(n:mS x 2=some f)(w:isStar a=false)(e:isStar b=false)(o:aH X Hi τ a l)(g :aH X Hi τ b m)(h:mR f [l,m]=some r) :
  aH X Hi τ (.Call (.Name x p) [a,b] [] pos) r:=by
 refine Nw λno=> ?_;have n:=n
 rcases jo n with⟨_,z,_⟩|⟨_,z,_⟩|⟨_,z,_⟩|⟨_,z,_⟩|⟨_,z,_⟩|⟨rfl,_,rfl⟩|⟨rfl,_,rfl⟩|⟨_,z,_⟩|⟨_,z,_⟩|⟨_,z,_⟩|⟨_,z,_⟩
 .cases z
 .cases z
 .cases z
 .cases z
 .cases z
 .unfold mR at h
  cases c:l.val with
  |int i =>
   cases d:m.val with
   |int j =>simp only[c,d]at h;cases h;exact no<|b2_go C (zL C.calm) y boot_min (by decide) w e o g λO σ H H2 u v Q R s r r2 q=>⟨i,j,by rw[r.int R s c,r2.int R s d],q _ _ (aD.refl _) zg⟩
   |_=>simp only[c,d]at h;cases h
  |_=>simp only[c]at h;cases h
 .unfold mR at h
  cases c:l.val with
  |int i =>
   cases d:m.val with
   |int j =>simp only[c,d]at h;cases h;exact no<|b2_go C (zM C.calm) y boot_max (by decide) w e o g λO σ H H2 u v Q R s r r2 q=>⟨i,j,by rw[r.int R s c,r2.int R s d],q _ _ (aD.refl _) zg⟩
   |_=>simp only[c,d]at h;cases h
  |_=>simp only[c]at h;cases h
 .cases z
 .cases z
 .cases z
 .cases z
theorem D2(h:xJ b=false):xw b:=by intro o i;cases b<;>first|rfl|cases h
theorem mT{k:Int}(r:aG X.K Hi n a H b)(h:ck a k=some e):∃u,ck b k=some u/\Rp X.K Hi n e H u:=by
 unfold ck at h ⊢;rw[<- r.len];cases c:uP a.length k with
 |none=>rw[c]at h;cases h|some j =>rw[c]at h;exact r.at h
set_option tactic.hygienic true in
theorem Bq(S:X.A.units+64<cLine)(L:xJ i=false)(M:aH X Hi τ a x)(T:aH X Hi τ i y)(h:index x y=some r):aH X Hi τ (.Subscript a i pos) r:=by
 have C:∀{E:R2}(I:MI X E),(∀O g H d u v Q,al X.K Hi O τ g H->aD H d->af X.K Hi O H d x u->af X.K Hi O H d y v->(∀w,af X.K Hi O H d r w->Q w d)->E u v d Q)->aH X Hi τ (.Subscript a i pos) r:=by intro E I k O g H Q R q;refine we (rh I aX aX (D2 L)) ?_;refine M O g H _ R λu H1 s1 r1=>T O g H1 _ (R.ext s1) λv d s2 r2=> ?_;exact k O g H d u v Q R (s1.trans s2) (r1.ext s2) (r2.back s1) λw r3=>q w d (s1.trans s2) r3
 unfold index at h
 split at h
 case h_1 k o =>
  unfold ixK at h
  split at h
  case h_1 f n =>
   cases c:ck f k with
   |none=>rw[c]at h;cases h|some e =>rw[c]at h;cases h;refine C ft λO g H d u v Q R s r1 r2 q=> ?_;obtain⟨p,j,rfl,_,l,r⟩:=Rp.lst.mp (show Rp X.K Hi n (.lst f) (aV d O) u from r1);obtain⟨w,m,b⟩:=mT r c;exact⟨p,j,k,w,rfl,r2.int R s o,(aQ).seq l,m,q w (b.mono br).up⟩
  case h_2 f n =>
   cases c:ck f k with
   |none=>rw[c]at h;cases h|some e =>rw[c]at h;cases h;refine C Bi λO g H d u v Q R s r1 r2 q=> ?_;obtain⟨p,j,rfl,l,r⟩:=Rp.tup.mp (show Rp X.K Hi n (.tup f) (aV d O) u from r1);obtain⟨w,m,b⟩:=mT r c;exact⟨p,j,k,w,rfl,r2.int R s o,(aQ).tup l,m,q w b.up⟩
  case h_3 f n =>
   cases c:ck f k with
   |none=>rw[c]at h;cases h|some e =>rw[c]at h;cases h;refine C ft λO g H d u v Q R s r1 r2 q=> ?_;obtain⟨p,j,rfl,U,J,r⟩:=r1;obtain⟨w,m,b⟩:=mT r c;exact⟨p,j,k,w,rfl,r2.int R s o,bH.of J,m,q w (b.mono (aO br)).up⟩
  case h_4 f =>
   cases c:ck f k with
   |none=>rw[c]at h;cases h|some e =>
    rw[c]at h;cases h;refine C ft λO g H d u v Q R s r1 r2 q=> ?_;obtain⟨p,j,rfl,_,l,r⟩:=Rp.lst.mp (show Rp X.K Hi false (.lst f) d u from r1);obtain⟨w,m,b⟩:=mT r c;refine⟨p,j,k,w,rfl,r2.int R s o,l,m,q w ?_⟩;unfold sX
    split
    .rename_i D
     exact Rp.imm D (R.ext s).tups (b.mono br)
    .exact b.mono br
  case h_5 f =>
   cases c:ck f k with
   |none=>rw[c]at h;cases h|some e =>
    rw[c]at h;cases h;refine C Bi λO g H d u v Q R s r1 r2 q=> ?_;obtain⟨p,j,rfl,l,r⟩:=Rp.tup.mp (show Rp X.K Hi false (.tup f) d u from r1);obtain⟨w,m,b⟩:=mT r c;refine⟨p,j,k,w,rfl,r2.int R s o,l,m,q w ?_⟩;unfold sX
    split
    .rename_i D
     exact Rp.imm D (R.ext s).tups b
    .exact b
  case h_6 z n =>
   split at h
   .rename_i N
    cases c:ck z.cps.toList k with
    |none=>rw[c]at h;cases h|some e =>rw[c]at h;cases h;exact C Bj λO g H d u v Q R s r1 r2 q=>⟨z,k,e,r1.str R s rfl,r2.int R s o,by rwa[eN],c,q _ scS⟩
   .cases h
  case h_7=>cases h
 case h_2=>cases h
variable(X Hi τ)in
def zX(e:Option Expr)(o:Option Int):Prop:=match e,o with
 |none,none=>True|some e,some i=>∃r,aH X Hi τ e r/\r.val=.int i|_,_=>False
theorem fQ{lo:Option Expr}(hr:KA X rr)(ha:aH X Hi τ a x)(hl:zX X Hi τ lo l)(hh:zX X Hi τ hi h)
  (k:∀(O:List Addr)(σ:L2.St)(H H2:Hp)(u:V)(Q:VK),al X.K Hi O τ σ H->aD H H2->af X.K Hi O H H2 x u->(∀w H3,aD H2 H3->af X.K Hi O H H3 r w->Q w H3)->rr u l h H2 Q):aH X Hi τ (.Subscript a (.Slice lo hi none p2) pos) r:=by
 have part:∀{e:Option Expr}{o:Option Int},zX X Hi τ e o->∃t,PO X e t/\∀O σ H Q,al X.K Hi O τ σ H->(∀H',aD H H' ->Q o H')->t σ H Q:=by
  intro e o he;cases e with
  |none =>
   cases o with
   |none=>exact⟨_,D1,λO σ H Q R q=>q H (aD.refl _)⟩|some i=>cases he
  |some e =>
   cases o with
   |none=>cases he|some i =>obtain⟨r,h1,h2⟩:=he;exact⟨_,Dz aX,λO σ H Q R q=>h1 O σ H _ R λu H1 s1 r1=>⟨i,r1.int R s1 h2,q _ s1⟩⟩
 obtain⟨tl,pl,ql⟩:=part hl;obtain⟨th,ph,qh⟩:=part hh;intro O σ H Q R q;refine we (A7 hr aX pl ph) ?_;refine ha O σ H _ R λu H1 s1 r1=>ql O σ H1 _ (R.ext s1) λH2 s2=>qh O σ H2 _ (R.ext (s1.trans s2)) λH3 s3=> ?_;exact k O σ H H3 u Q R (s1.trans (s2.trans s3)) (r1.ext (s2.trans s3)) λw H4 s4 r4=>q w H4 (s1.trans (s2.trans (s3.trans s4))) r4
theorem aG.cut(r:aG X.K Hi n c H a)(b d:Option Int):aG X.K Hi n (IR.cut c b d) H (tZ a b d):=by unfold IR.cut tZ;rw[<- r.len];exact(r.drop _).take _
set_option tactic.hygienic true
theorem af.whole(R:al X.K Hi O τ g H)(s:aD H c)(h:af X.K Hi O H c x u)(e:x.its=some (f,n))(d:x.val=.tup a):af X.K Hi O H c (.frz (.tup f) n) u:=by
 cases x with
 |frz w m =>obtain rfl:w=.tup a:=d;cases e;exact h
 |bor w =>
  obtain rfl:w=.tup a:=d;have e:(if imms a then some (a,true)else none)=some (f,n):=e
  split at e
  .rename_i i
   cases e;exact Rp.imm (by rwa[imm]) (R.ext s).tups (show Rp X.K Hi false (.tup _) c u from h)
  .cases e
 |own a m=>cases d|owd b a m=>cases b<;>cases d
theorem AY(j:aH X Hi τ a x)(i:zX X Hi τ y l)(m:zX X Hi τ C h)(e:slice x l h=some r):aH X Hi τ (.Subscript a (.Slice y C none D) pos) r:=by
 unfold slice at e
 split at e
 case h_1 z c =>
  split at e
  .rename_i A
   split at e
   .rename_i k
    split at e
    .rename_i I
     cases e;refine fQ AZ j i m λO σ H H2 u Q R s r1 q=>⟨z,r1.str R s c,by rwa[eN],?_⟩;have o:Txt.slice z none (some k)=(⟨(z.cps.toList.take k.toNat).toArray⟩:Str):=by refine UM.wO ?_;have:=yW z k.toNat;rw[show((k.toNat:Nat):Int)=k by omega]at this;rw[this]
     rw[o];exact q _ _ (aD.refl _) scS
    .cases e
   .rename_i k
    split at e
    .rename_i I
     cases e;refine fQ AZ j i m λO σ H H2 u Q R s r1 q=>⟨z,r1.str R s c,by rwa[eN],?_⟩;have o:Txt.slice z (some k) none=(⟨(z.cps.toList.drop k.toNat).toArray⟩:Str):=by refine UM.wO ?_;have:=yV z k.toNat;rw[show((k.toNat:Nat):Int)=k by omega]at this;rw[this]
     rw[o];exact q _ _ (aD.refl _) scS
    .cases e
   .cases e
  .cases e
 case h_2 c =>
  cases b:x.its with
  |none=>rw[b]at e;cases e|some w =>obtain⟨E,n⟩:=w;rw[b]at e;cases e;refine fQ Dd j i m λO σ H H2 u Q R s r1 q=> ?_;obtain⟨p,f,rfl,g,d⟩:=r1.itsL R s b c;exact⟨p,f,rfl,g,λp3 hp=>q _ _ (aI hp _) (eh s hp (d.up.cut _ _))⟩
 case h_3 c =>
  cases b:x.its with
  |none=>rw[b]at e;cases e|some w =>
   obtain⟨E,n⟩:=w;rw[b]at e;dsimp only at e
   split at e
   .rename_i v
    cases e;refine fQ Dc j i m λO σ H H2 u Q R s r1 q=> ?_;obtain⟨p,f,rfl,g,d⟩:=r1.itsT R s b c;exact⟨p,f,rfl,g,by rwa[<- d.len],q _ _ (aD.refl _) (r1.whole R s b c)⟩
   .rename_i v
    cases e;refine fQ Gp j i m λO σ H H2 u Q R s r1 q=> ?_;obtain⟨p,f,rfl,g,d⟩:=r1.itsT R s b c;refine⟨p,f,rfl,g,by rwa[<- d.len],λp3 hp=>q _ _ (aI hp _) ?_⟩;exact Rp.tup.mpr ⟨p3,_,rfl,bT.of (pd R s hp),(d.cut _ _).mono (aO (aI hp _))⟩
 case h_4=>cases e
end
end IR
namespace IR
open PySem L2
section
variable{X:Cx}{Hi:Hp}{τ:En}
set_option tactic.hygienic false
theorem vH{d c:Type}{o:Option d}{f:d->c}{b:c}(h:o.map f=some b):∃a,o=some a/\f a=b:=by
 cases o with
 |none=>cases h|some a=>cases h;exact⟨a,rfl,rfl⟩
set_option tactic.hygienic true
theorem nP(h:fO v=some ns):∃xs,v=.lst xs/\aY xs=some ns/\∀n∈ns,0<=n/\n<8:=by
 cases v with
 |lst xs =>
  have h:((aY xs).bind λns=>if ns.all (λn=>decide (0<=n)&&decide (n<8))=true then some ns else none)=some ns:=h;cases e:aY xs with
  |none=>rw[e]at h;cases h|some ms =>
   rw[e]at h;have h:(if ms.all (λn=>decide (0<=n)&&decide (n<8))=true then some ms else none)=some ns:=h
   split at h
   .rename_i c
    cases h;exact⟨xs,rfl,e,λn hn=>by simpa using Mn.mp c n hn⟩
   .cases h
 |_=>cases h
theorem nst_ok{cd:Nat->List PV->Option PV}{ct:Ct}(C:bh cd X ct)(ho:own ct x=true)(ho2:own ct y=true)(hf:wz x y=some f)(hs:isStar a=false)(ha:aH X Hi τ a ra)(h:mR f [ra]=some r) :
  aH X Hi τ (.Call (.Name x p) [.Call (.Name y p2) [a] [] pos2] [] pos) r:=by
 unfold wz at hf
 split at hf
 .rename_i c
  rw[Mb]at c;have hx:=Mz c.1;have hy:=Mz c.2;subst hx hy;cases hf;obtain⟨ns,hn,rfl⟩:=vH h;obtain⟨xs,e,eb,h8⟩:=nP hn;intro O σ H Q R q;obtain⟨g,hm⟩:=dE C ho;obtain⟨g2,hm2⟩:=dE C ho2;refine we (aw (jh C.calm) g hm PyProof.Rows.boot_sorted (aF (bw (oM C.calm) g2 hm2 PyProof.Rows.boot_set (aF aX aK (aR hs)) (by decide) (by decide) (aR hs) rfl) aK) (by decide) (by decide) rfl rfl) ?_;refine ha O σ H _ R λu H1 s1 r1=> ?_;obtain⟨l,us,rfl,hl,rr⟩:=r1.lst R s1 e;have eu:=eV eb rr;subst eu;refine⟨l,ns,rfl,hl,h8,λb hb=>⟨b,maskOf ns,rfl,xD h8,aB,λd hd=> ?_⟩⟩;have s2:=s1.trans (aI hb (.ext (SQ.SX X.w b (maskOf ns))));refine q _ _ (s2.trans (aI hd _)) (eh s2 hd (aG.ints.mpr ?_));unfold cA;rw[M4];rfl
 split at hf
 .rename_i c
  rw[Mb]at c;have hx:=Mz c.1;have hy:=Mz c.2;subst hx hy;cases hf;obtain⟨ns,hn,rfl⟩:=vH h;obtain⟨xs,e,eb,h8⟩:=nP hn;intro O σ H Q R q;obtain⟨g,hm⟩:=dE C ho;obtain⟨g2,hm2⟩:=dE C ho2;refine we (aw nD g hm On (aF (bw (oM C.calm) g2 hm2 PyProof.Rows.boot_set (aF aX aK (aR hs)) (by decide) (by decide) (aR hs) rfl) aK) (by decide) (by decide) rfl rfl) ?_;refine ha O σ H _ R λu H1 s1 r1=> ?_;obtain⟨l,us,rfl,hl,rr⟩:=r1.lst R s1 e;have eu:=eV eb rr;subst eu;refine⟨l,ns,rfl,hl,h8,λb hb=>⟨b,maskOf ns,rfl,xD h8,aB,?_⟩⟩;have e3:(cA ns).length=(SQ.lst (maskOf ns)).length:=by unfold cA;rw[MT]
  rw[<- e3];exact q _ _ (s1.trans (aI hb _)) zg
 split at hf
 .rename_i c
  rw[Mb]at c;have hx:=Mz c.1;have hy:=Mz c.2;subst hx hy;cases hf
  have h:(match ra.val with
   | .tup _=>(match ra.its with
    |some (xs,n)=>if xs.isEmpty then none else some (RV.frz (.tup xs.reverse) n)|none=>none)
   |_=>none)=some r:=h
  cases e:ra.val with
  |tup ys =>
   simp only[e]at h;cases e2:ra.its with
   |none=>rw[e2]at h;cases h|some w =>
    obtain⟨xs,n⟩:=w;rw[e2]at h;have h:(if xs.isEmpty then none else some (RV.frz (.tup xs.reverse) n))=some r:=h
    split at h;cases h
    .rename_i ne
     cases h;intro O σ H Q R q;obtain⟨g,hm⟩:=dE C ho;obtain⟨g2,hm2⟩:=dE C ho2;refine we (bw (py C.calm) g hm PyProof.Rows.boot_tuple (aF (bw pz g2 hm2 PyProof.Rows.boot_reversed (aF aX aK (aR hs)) (by decide) (by decide) (aR hs) rfl) aK) (by decide) (by decide) rfl rfl) ?_;refine ha O σ H _ R λu H1 s1 r1=> ?_;obtain⟨l,us,rfl,hl,rr⟩:=r1.itsT R s1 e2 e;have hlen:=rr.len;refine⟨l,us,rfl,hl,λb hb hne=>⟨b,l,us,rfl,aB,(aI hb _).tup hl,?_,hne,λd φ hd=> ?_⟩⟩
     .cases xs with
      |nil=>exact absurd rfl ne|cons _ _=>simp at hlen;omega
     .have hd1:H1 d=none:=by
       by_cases z:d=b;subst z;exact hb;rwa [aA z]at hd
      have db:d≠b:=λz=>by subst z;rw[aB]at hd;cases hd
      have sN:aD H1 (upd (upd (upd H1 b (.ext (SR.cS b l ((us.length:Int)-1)))) b (.ext φ)) d (.tup us.reverse)):=λc o z=>by
       have n1:c≠d:=λy=>by subst y;rw[hd1]at z;cases z
       have n2:c≠b:=λy=>by subst y;rw[hb]at z;cases z
       rwa[aA n1,aA n2,aA n2]
      refine q _ _ (s1.trans sN) ?_;refine Rp.tup.mpr ⟨d,us.reverse,rfl,?_,?_⟩;exact pc R (s1.trans sN) (bT.of aB)
      .have:=rr.rev
       exact this.mono (aO sN)
  |_=>simp only[e]at h;cases h
 .cases hf
def Kw:V->List V->Hp->VK->Prop:=λx vs H Q=>∃z y j,x=.str z/\vs=[.str y]/\Bv z y=some j/\Q (.int (j:Nat)) H
set_option tactic.hygienic false
theorem yq:MtR X "str.index" Kw:=by intro a s f H x i v l Q I b d h;obtain⟨z,y,j,rfl,rfl,e,q⟩:=h;obtain⟨t,rfl⟩:=b;obtain⟨u,rfl,g,rfl⟩:=vals1 d;obtain⟨r,c⟩:=List.head?_eq_some_iff.mp e;exact SC.index c ⟨.int j,H,I.tok _,⟨_,rfl⟩,q⟩
theorem indexT_ok(C:X.A.units+64<cLine){o:Expr}(p:plainB o=true)(s:(b.endLine==c.line)=true)(l:isStar a=false)(n:aH X Hi τ o g)(x:aH X Hi τ a f)(h:BP .index g [f]=some r) :
  aH X Hi τ (.Call (.Attribute o "index" b) [a] [] c) r:=by
 have d:attributeBase o "index" X.env (eval o X.env)=eval o X.env:=by cases o<;>first|rfl|cases p
 unfold BP at h;cases e:g.val with
 |str z =>
  cases i:f.val with
  |str y =>simp only[e,i]at h;obtain⟨j,u,rfl⟩:=vH h;intro O m H Q R q;refine we (F9 PySem.F.plainAttrs_str PySem.F.slot_str_index PySem.F.type_str_index yq aX (aF aX aK (aR l)) d (by rw[aR l];rfl) s (aR l) rfl) ?_;refine n O m H _ R λu H1 s1 r1=> ?_;have v:=r1.str R s1 e;subst v;refine⟨rfl,x O m H1 _ (R.ext s1) λv H2 s2 r2=> ?_⟩;have w:=(r2.back s1).str R (s1.trans s2) i;subst w;exact⟨z,y,j,rfl,rfl,u,q _ _ (s1.trans s2) zg⟩
  |_=>simp only[e,i]at h;cases h
 |_=>simp only[e]at h;cases h
end
end IR
namespace IR
open PySem PySem.Spec PyProof.Rows L2
section
variable{X:Cx}{Hi:Hp}{τ:En}
def WI(X:Cx)(d a:Expr)(c:L2.St)(H:Hp)(R:It->Hp->Prop):Prop:=∃b,PI X d a b/\b c H R
theorem HS:PI X b a (λσ H R=>WI X b a σ H R):=λpins s σ H R I ⟨wi,h,q⟩=>h pins s σ H R I q
def wC(O:List Addr)(H:Hp):Prop:=∀l∈O,∃o,H l=some o/\Mo o
theorem al.lsts{K:W.Frag}(R:al K Hi O τ a H):wC O H:=λl hl=>(R.own l hl).2
def GM(B:Hp)(H:Hp)(O:List Addr):Prop:=wC O H/\aD B (aV H O)
def OkB(B:Hp)(H:Hp)(O:List Addr):Prop:=wC O H/\aD B H
set_option tactic.hygienic false
theorem wC.tups(h:wC O H):wA H (aV H O):=by refine ir.tups λl hl=> ?_;obtain⟨b,e,a⟩:=h l hl;exact a.noTup e
variable(X Hi)in
structure kA(J:It)(Ok:Hp->List Addr->Prop)(xs:List PV)(n:Bool):Prop where
 go:∀(H:Hp)(O:List Addr)(i:Nat),Ok H O->i<xs.length->J.go i H
 stop:∀(H:Hp)(O:List Addr),Ok H O->J.stop xs.length H
 yld:∀(H:Hp)(O:List Addr)(i:Nat)(u:V)(H' :Hp),Ok H O->i<xs.length->J.yld i H u H' ->aD H H' /\∃x,xs[i]? =some x/\Rp X.K Hi n x (aV H' O) u
variable(X Hi τ)in
def kM(f a:Expr)(e:List PV)(n b:Bool):Prop:=∀(O:List Addr)(d:L2.St)(H:Hp)(R:It->Hp->Prop),al X.K Hi O τ d H -> (∀J c,aD H c->kA X Hi J (if b=true then OkB c else GM (aV c O)) e n->R J c)->WI X f a d H R
theorem GK{B:Hp}{p:Addr}{a:List V}{b:List PV}{n:Bool}(l:bH X.K B p a)(r:aG X.K Hi n b B a):kA X Hi (Jq X.K p) (GM B) b n where
 go:=λH O i ok hi=>⟨a,a[i]'(by rwa[<- r.len]),(ok.2.trans aQ).seq l,by simp⟩
 stop:=λH O ok=>⟨a,(ok.2.trans aQ).seq l,by rw[r.len];exact Mc _⟩
 yld:=λH O i u H' ok hi y=>by obtain⟨e,y⟩:=y;subst e;obtain⟨x,d,c⟩:=r.at' (y a ((ok.2.trans aQ).seq l));exact⟨aD.refl _,x,d,c.mono ok.2⟩
theorem La{B:Hp}{p:Addr}{a:List V}{b:List PV}{n:Bool}(l:bT X.K B p a)(r:aG X.K Hi n b B a):kA X Hi (Jp X.K p) (GM B) b n where
 go:=λH O i ok hi=>⟨a,a[i]'(by rwa[<- r.len]),(ok.2.trans aQ).tup l,by simp⟩
 stop:=λH O ok=>⟨a,(ok.2.trans aQ).tup l,by rw[r.len];exact Mc _⟩
 yld:=λH O i u H' ok hi y=>by obtain⟨e,y⟩:=y;subst e;obtain⟨x,d,c⟩:=r.at' (y a ((ok.2.trans aQ).tup l));exact⟨aD.refl _,x,d,c.mono ok.2⟩
theorem JI{B:Hp}{p:Addr}{a:List V}{b:List PV}{n m:Bool}(l:bH X.K B p a)(r:aG X.K Hi m b B a)(d:imms b=true):kA X Hi (Jq X.K p) (OkB B) b n where
 go:=λH O i ok hi=>⟨a,a[i]'(by rwa[<- r.len]),ok.2.seq l,by simp⟩
 stop:=λH O ok=>⟨a,ok.2.seq l,by rw[r.len];exact Mc _⟩
 yld:=λH O i u H' ok hi y=>by obtain⟨e,y⟩:=y;subst e;have f:aG X.K Hi n b (aV H' O) a:=aG.imm d ok.1.tups (r.mono ok.2);obtain⟨x,g,c⟩:=f.at' (y a (ok.2.seq l));exact⟨aD.refl _,x,g,c⟩
theorem JH{B:Hp}{p:Addr}{a:List V}{b:List PV}{n m:Bool}(l:bT X.K B p a)(r:aG X.K Hi m b B a)(d:imms b=true):kA X Hi (Jp X.K p) (OkB B) b n where
 go:=λH O i ok hi=>⟨a,a[i]'(by rwa[<- r.len]),ok.2.tup l,by simp⟩
 stop:=λH O ok=>⟨a,ok.2.tup l,by rw[r.len];exact Mc _⟩
 yld:=λH O i u H' ok hi y=>by obtain⟨e,y⟩:=y;subst e;have f:aG X.K Hi n b (aV H' O) a:=aG.imm d ok.1.tups (r.mono ok.2);obtain⟨x,g,c⟩:=f.at' (y a (ok.2.tup l));exact⟨aD.refl _,x,g,c⟩
theorem ci(z:Str):(signs z).length=z.cps.size:=by unfold signs;rw[MT,M0]
theorem signs_at{i:Nat}(h:z.cps[i]? =some c):(signs z)[i]? =some (.str ⟨#[c]⟩):=by unfold signs;rw[Mp,Nh,h];rfl
theorem Lb{B:Hp}{z:Str}{n:Bool}:kA X Hi (MK z) (GM B) (signs z) n where
 go:=λH O i ok hi=>by rwa[ci]at hi
 stop:=λH O ok=>by show(signs z).length=z.cps.size;exact ci z
 yld:=λH O i u H' ok hi y=>by obtain⟨e,c,a,rfl⟩:=y;subst e;exact⟨aD.refl _,_,signs_at a,Rp.str.mpr rfl⟩
theorem xV{B:Hp}{b:Int}{k:Nat}{n:Bool}:kA X Hi (GN b k) (GM B) ((List.range k).map λi=>.int (b+(i:Nat))) n where
 go:=λH O i ok a=>by show i<k;simpa using a
 stop:=λH O ok=>by show k<=_;simp
 yld:=λH O i u H' ok a y=>by
  obtain⟨e,rfl⟩:=y;subst e;have a:i<k:=by simpa using a
  exact⟨aD.refl _,_,by rw[Mp,Na a];rfl,Rp.int.mpr rfl⟩
theorem CH{B:Hp}{b c:Int}{k:Nat}{n:Bool}:kA X Hi (Itc b c k) (GM B) ((List.range k).map λi=>.int (b+(i:Nat)*c)) n where
 go:=λH O i ok a=>by show i<k;simpa using a
 stop:=λH O ok=>by show _=k;simp
 yld:=λH O i u H' ok a y=>by
  obtain⟨e,rfl⟩:=y;subst e;have a:i<k:=by simpa using a
  exact⟨aD.refl _,_,by rw[Mp,Na a];rfl,Rp.int.mpr rfl⟩
set_option tactic.hygienic true
theorem Gq(i:aH X Hi τ e r)(h:ku r=some (d,n,b)):kM X Hi τ y e d n b:=by
 intro O g H R f q;cases r with
 |frz v m =>
  cases v with
  |str z =>cases h;refine⟨_,HU aX,?_⟩;exact i O g H _ f λu H1 s1 r1=>⟨z,r1.str f s1 rfl,q _ _ s1 Lb⟩
  |lst c =>cases h;refine⟨_,iA aX,?_⟩;refine i O g H _ f λu H1 s1 r1=> ?_;obtain⟨p,a,rfl,_,l,r⟩:=Rp.lst.mp (show Rp X.K Hi n (.lst d) (aV H1 O) u from r1);exact⟨p,rfl,⟨a,(aQ).seq l⟩,q _ _ s1 (GK l (r.mono br))⟩
  |tup c =>cases h;refine⟨_,uu aX,?_⟩;refine i O g H _ f λu H1 s1 r1=> ?_;obtain⟨p,a,rfl,l,r⟩:=Rp.tup.mp (show Rp X.K Hi n (.tup d) (aV H1 O) u from r1);exact⟨p,rfl,⟨a,(aQ).tup l⟩,q _ _ s1 (La l r)⟩
  |_=>cases h
 |bor v =>
  cases v with
  |lst c =>
   have h:(if imms c then some (c,true,true)else none)=some (d,n,b):=h
   split at h
   .rename_i j
    cases h;refine⟨_,iA aX,?_⟩;refine i O g H _ f λu H1 s1 r1=> ?_;obtain⟨p,a,rfl,_,l,r⟩:=Rp.lst.mp (show Rp X.K Hi false (.lst d) H1 u from r1);exact⟨p,rfl,⟨a,l⟩,q _ _ s1 (JI l (r.mono br) j)⟩
   .cases h
  |tup c =>
   have h:(if imms c then some (c,true,true)else none)=some (d,n,b):=h
   split at h
   .rename_i j
    cases h;refine⟨_,uu aX,?_⟩;refine i O g H _ f λu H1 s1 r1=> ?_;obtain⟨p,a,rfl,l,r⟩:=Rp.tup.mp (show Rp X.K Hi false (.tup d) H1 u from r1);exact⟨p,rfl,⟨a,l⟩,q _ _ s1 (JH l r j)⟩
   .cases h
  |_=>cases h
 |owd C c m=>cases h|own c m =>
  cases h;refine⟨_,iA aX,?_⟩;refine i O g H _ f λu H1 s1 r1=> ?_;obtain⟨p,a,rfl,w,o,r⟩:=r1;have x:aV H1 O p=some (.lst a):=by
   unfold aV;rw[MY λz=> ?_]
   .exact o
   .obtain⟨A,s,_⟩:=(f.own p z).2
    rw[w]at s;cases s
  exact⟨p,rfl,⟨a,bH.of o⟩,q _ _ s1 (GK (bH.of x) (r.mono (aO br)))⟩
theorem G9{ct:Ct}(C:bh N X ct)(Y:own ct ("range":Str)=true)(n:∀a∈m,isStar a=false)(E:qI X Hi τ m w)(x:m.length=w.length)(h:o5 w=some J) :
  kM X Hi τ W (.Call (.Name "range" p) m [] pos) J true false:=by
 intro O s H R f q;obtain⟨g,v⟩:=dE C Y;unfold o5 at h
 split at h
 .rename_i o
  cases e:o.val with
  |int j =>
   simp only[e]at h
   split at h
   .rename_i c
    cases h
    match m,x with
    |[a],_ =>refine⟨_,nY g v uz (aR (n a (by simp))),?_⟩;refine E O s H _ f λus H1 s1 r1=> ?_;obtain⟨u,L,rfl,r,z⟩:=r1;cases z;exact⟨j,by rw[r.int f s1 e],c.1,c.2,q _ _ s1 xV⟩
   .cases h
  |_=>simp only[e]at h;cases h
 .rename_i o D
  cases e:o.val with
  |int i =>
   cases l:D.val with
   |int j =>
    simp only[e,l]at h
    split at h
    .rename_i c
     cases h
     match m,x with
     |[a,b],_ =>
      have M:starEach [a,b] X.env=[(false,eval a X.env),(false,eval b X.env)]:=by rw[aR (n a (by simp)),aR (n b (by simp))];rfl
      refine⟨_,yi g v uz M (aR (n b (by simp))),?_⟩;refine E O s H _ f λus H1 s1 r1=> ?_;obtain⟨u,L,rfl,r,Q,I,rfl,y,z⟩:=r1;cases z;exact⟨i,j,by rw[r.int f s1 e,y.int f s1 l],c,q _ _ s1 xV⟩
    .cases h
   |_=>simp only[e,l]at h;cases h
  |_=>simp only[e]at h;cases h
 .rename_i o D S
  cases e:o.val with
  |int i =>
   cases l:D.val with
   |int j =>
    cases A:S.val with
    |int k =>
     simp only[e,l,A]at h
     split at h
     .rename_i c
      cases h
      match m,x with
      |[a,b,d],_ =>refine⟨_,yh g v uz (aR (n a (by simp))) (iE λz hz=>n z (by simp at hz ⊢;rcases hz with rfl|rfl<;>simp)),?_⟩;refine E O s H _ f λus H1 s1 r1=> ?_;obtain⟨u,L,rfl,r,Q,I,rfl,y,Z,T,rfl,U,z⟩:=r1;cases z;exact⟨i,j,k,by rw[r.int f s1 e,y.int f s1 l,U.int f s1 A],c.1,c.2.1,c.2.2,q _ _ s1 CH⟩
     .cases h
    |_=>simp only[e,l,A]at h;cases h
   |_=>simp only[e,l]at h;cases h
  |_=>simp only[e]at h;cases h
 .cases h
set_option tactic.hygienic false
theorem pN(R:al X.K Hi O τ i H)(s:aD H b)(h:BQ r=some (c,n))(e:af X.K Hi O H b r u):∃p a,u=.ref p/\bH X.K (aV b O) p a/\aG X.K Hi n c (aV b O) a:=by
 cases r with
 |frz v m =>
  cases v with
  |lst d =>cases h;obtain⟨p,a,rfl,_,l,r⟩:=Rp.lst.mp (show Rp X.K Hi n (.lst c) (aV b O) u from e);exact⟨p,a,rfl,l,r.mono br⟩
  |_=>cases h
 |bor v=>cases h|owd w d m=>cases h|own d m =>
  cases h;obtain⟨p,a,rfl,g,j,r⟩:=e;have o:aV b O p=some (.lst a):=by
   unfold aV;rw[MY λz=> ?_]
   .exact j
   .obtain⟨q,f,_⟩:=(R.own p z).2
    rw[g]at f;cases f
  exact⟨p,a,rfl,bH.of o,r.mono (aO br)⟩
theorem kQ(l:wC O H)(b:H p=none)(r:aG X.K Hi n c (aV H O) a):Rp X.K Hi n (.tup c) (aV (L2.upd H p (.tup a)) O) (.ref p):=by
 refine Rp.tup.mpr ⟨p,a,rfl,bT.of ?_,r.mono (aO (aI b _))⟩;unfold aV;rw[MY λz=> ?_]
 .exact aB
 .obtain⟨a,e,_⟩:=l p z
  rw[e]at b;cases b
set_option tactic.hygienic true in
theorem GQ{cd:Nat->List PV->Option PV}{ct:Ct}(C:bh cd X ct)(ho:own ct ("zip":Str)=true)(Q:isStar a=false)(f:isStar b=false)(ha:aH X Hi τ a J)(hb:aH X Hi τ b N)(h:zk J N=some (L,n)) :
  kM X Hi τ (.Tuple ts kt l) (.Call (.Name "zip" p) [a,b] [] pos) L n false:=by
 intro O I H R s q;obtain⟨g,hm⟩:=dE C ho;unfold zk at h
 split at h
 .rename_i T n1 Y n2 Z e2
  split at h
  .rename_i j
   cases h;refine⟨_,HR g hm (aF aX (aF aX aK (aR f)) (aR Q)) (aR Q) (iE λc hc=>by simp at hc;subst hc;exact f),?_⟩;refine ha O I H _ s λu H1 s1 r1=>hb O I H1 _ (s.ext s1) λv H2 s2 r2=> ?_;obtain⟨p1,c,rfl,r,S⟩:=pN s (s1.trans s2) Z (r1.ext s2);obtain⟨W,d,rfl,o,M⟩:=pN s (s1.trans s2) e2 (r2.back s1);refine⟨p1,W,c,d,rfl,(aQ).seq r,(aQ).seq o,q _ _ (s1.trans s2) ?_⟩;have U:=S.len;have z2:=M.len;have A:(List.zipWith wm T Y).length=c.length:=by rwa[PK,<-j,Pn]
   refine⟨λG P i ok hi=> ?_,λG P ok=> ?_,λG P i w G' ok hi y=> ?_⟩
   .rw[A]at hi
    exact⟨c,d,c[i],d[i]'(by omega),(ok.2.trans aQ).seq r,(ok.2.trans aQ).seq o,by simp,by simp⟩
   .exact⟨c,d,(ok.2.trans aQ).seq r,(ok.2.trans aQ).seq o,.inl (by rw[A];exact Mc _)⟩
   .rw[A]at hi
    obtain⟨p3,m,rfl,y⟩:=y;have e:=y c d c[i] (d[i]'(by omega)) ((ok.2.trans aQ).seq r) ((ok.2.trans aQ).seq o) (by simp) (by simp);subst e;obtain⟨x1,D,v⟩:=S.at' (i:=i) (u:=c[i]) (by simp);obtain⟨x2,E,x⟩:=M.at' (i:=i) (u:=d[i]'(by omega)) (by simp);refine⟨aI m _,wm x1 x2,by rw[Oa,D,E],kQ ok.1 m (.cons ((v.mono ok.2).low λz=> ?_) (.cons ((x.mono ok.2).low λz=> ?_) .nil))⟩
    .rw[Mb]at z;exact z.1
    .rw[Mb]at z;exact z.2
  .cases h
 .cases h
theorem Do{ct:Ct}(C:bh s X ct){A:Expr}(E:own ct ("reversed":Str)=true)(j:isStar a=false)(z:aH X Hi τ a (.frz (.tup d) n)) :
  kM X Hi τ A (.Call (.Name "reversed" p) [a] [] pos) d.reverse n false:=by
 intro O m H R x q;obtain⟨g,o⟩:=dE C E;refine⟨_,HV g o (aF aX aK (aR j)) (aR j),?_⟩;refine z O m H _ x λu H1 s1 r1=> ?_;obtain⟨v,c,rfl,l,r⟩:=Rp.tup.mp (show Rp X.K Hi n (.tup d) (aV H1 O) u from r1);refine⟨v,c,rfl,(aQ).tup l,q _ _ s1 ?_⟩;have b:=r.len;refine⟨λG P i ok hi=> ?_,λG P ok=> ?_,λG P i w G' ok hi y=> ?_⟩
 .rw[OR]at hi
  exact⟨by omega,c,(ok.2.trans aQ).tup l,rfl⟩
 .exact⟨by rwa[OR],c,(ok.2.trans aQ).tup l,rfl⟩
 .rw[OR]at hi
  obtain⟨rfl,y⟩:=y;obtain⟨D,h,f⟩:=r.at' (y c ((ok.2.trans aQ).tup l) rfl);refine⟨aD.refl _,D,?_,f.mono ok.2⟩;rwa[List.getElem?_reverse hi,b]
theorem Dp(h:Jw r=some (a,n)):r=.frz (.tup a) n:=by
 unfold Jw at h
 split at h
 .cases h
  rfl
 .cases h
theorem Gz{ct:Ct}(C:bh i X ct)(f:own ct ("reversed":Str)=true)(e:isStar a=false)(c:aH X Hi τ a d)(h:Jw d=some (b,n)) :
  kM X Hi τ g (.Call (.Name "reversed" p) [a] [] pos) b.reverse n false:=by
 rw[Dp h]at c;exact Do C f e c
set_option tactic.hygienic true in
theorem Ey{ct:Ct}(C:bh Y X ct)(ho:own ct ("enumerate":Str)=true)(A:isStar a=false)(M:aH X Hi τ a Q)(h:tR Q=some (S,n)) :
  kM X Hi τ (.Tuple ts Z E) (.Call (.Name "enumerate" p) [a] [] pos) S n false:=by
 intro O I H R D q;obtain⟨g,J⟩:=dE C ho;unfold tR at h
 split at h
 .rename_i z m
  cases h;refine⟨_,A5 g J (aF aX aK (aR A)) (aR A),?_⟩;refine M O I H _ D λu H1 s1 r1=>⟨z,by rw[r1.str D s1 rfl],q _ _ s1 ?_⟩;have j:(List.zipWith iD (List.range z.length) (signs z)).length=z.length:=by rw[PK,ci,NT];exact Pn _
  have f:=kq z;refine⟨λG P i ok hi=> ?_,λG P ok=> ?_,λG P i w G' ok hi y=> ?_⟩
  .rw[j]at hi
   exact⟨_,(cy z)[i]'(by omega),rfl,by simp⟩
  .exact⟨_,rfl,by rw[j,f]⟩
  .rw[j]at hi
   obtain⟨T,b,rfl,y⟩:=y;have hz:i<z.cps.size:=hi;obtain⟨c,U⟩:∃c,z.cps[i]? =some c:=⟨z.cps[i],by simp[hz]⟩;have v:(cy z)[i]? =some (.str ⟨#[c]⟩):=by unfold cy;rw[Mp,Nh,U];rfl
   have e:=y _ (.str ⟨#[c]⟩) rfl v;subst e;refine⟨aI b _,iD i (.str ⟨#[c]⟩),by rw[Oa,signs_at U,Na hi],kQ ok.1 b (.cons (Rp.int.mpr rfl) (.cons (Rp.str.mpr rfl) .nil))⟩
 .rename_i o m
  cases h;refine⟨_,A4 g J (aF aX aK (aR A)) (aR A),?_⟩;refine M O I H _ D λu H1 s1 r1=> ?_;obtain⟨L,d,rfl,l,r⟩:=Rp.tup.mp (show Rp X.K Hi n (.tup o) (aV H1 O) u from r1);refine⟨L,d,rfl,(aQ).tup l,q _ _ s1 ?_⟩;have j:(List.zipWith iD (List.range o.length) o).length=o.length:=by rw[PK,NT];exact Pn _
  have f:=r.len;refine⟨λG P i ok hi=> ?_,λG P ok=> ?_,λG P i w G' ok hi y=> ?_⟩
  .rw[j]at hi
   exact⟨d,d[i]'(by omega),(ok.2.trans aQ).tup l,by simp⟩
  .exact⟨d,(ok.2.trans aQ).tup l,by rw[j,f]⟩
  .rw[j]at hi
   obtain⟨T,b,rfl,y⟩:=y;have v:d[i]? =some (d[i]'(by omega)):=by simp
   have e:=y d _ ((ok.2.trans aQ).tup l) v;subst e;obtain⟨N,x,s⟩:=r.at' v;exact⟨aI b _,iD i N,by rw[Oa,x,Na hi],kQ ok.1 b (.cons (Rp.int.mpr rfl) (.cons (s.mono ok.2) .nil))⟩
 .split at h
  .rename_i o m W
   cases h;refine⟨_,rg g J (aF aX aK (aR A)) (aR A),?_⟩;refine M O I H _ D λu H1 s1 r1=> ?_;obtain⟨L,d,rfl,l,r⟩:=pN D s1 W r1;refine⟨L,d,rfl,(aQ).seq l,q _ _ s1 ?_⟩;have j:(List.zipWith iD (List.range o.length) o).length=o.length:=by rw[PK,NT];exact Pn _
   have f:=r.len;refine⟨λG P i ok hi=> ?_,λG P ok=> ?_,λG P i w G' ok hi y=> ?_⟩
   .rw[j]at hi
    exact⟨d,d[i]'(by omega),(ok.2.trans aQ).seq l,by simp⟩
   .exact⟨d,(ok.2.trans aQ).seq l,by rw[j,f]⟩
   .rw[j]at hi
    obtain⟨T,b,rfl,y⟩:=y;have v:d[i]? =some (d[i]'(by omega)):=by simp
    have e:=y d _ ((ok.2.trans aQ).seq l) v;subst e;obtain⟨N,x,s⟩:=r.at' v;exact⟨aI b _,iD i N,by rw[Oa,x,Na hi],kQ ok.1 b (.cons (Rp.int.mpr rfl) (.cons (s.mono ok.2) .nil))⟩
  .cases h
theorem jQ{N:List Str}:∀{b:List Str}{a:List Nat},slots N b=some a->b.length=a.length
 |[],a,h=>by cases h;rfl|x::b,a,h=>by
  unfold slots at h;cases e:slot N x with
  |none=>rw[e]at h;cases h|some i =>
   rw[e]at h;cases c:slots N b with
   |none=>simp[c]at h|some d =>simp[c]at h;subst h;simp[jQ c]
theorem rD{N:List Str}:∀{b:List Str}{a:List Nat}{j i:Nat},slots N b=some a->a[j]? =some i->∃x,b[j]? =some x/\N[i]? =some x
 |[],a,j,i,h,hj=>by cases h;simp at hj|x::b,a,j,i,h,hj=>by
  unfold slots at h;cases e:slot N x with
  |none=>rw[e]at h;cases h|some f =>
   rw[e]at h;cases c:slots N b with
   |none=>simp[c]at h|some d =>
    simp[c]at h;subst h;cases j with
    |zero =>simp at hj;subst hj;exact⟨x,by simp,fm e⟩
    |succ j=>simpa using rD c (by simpa using hj)
theorem lX{ct:Ct}{t:Str}{scope:Scope}(h:yv ct t scope=true):scope.kind=.function/\(∀y∈scope.names,y.2=.cell->scope.names.lookup y.1=some .cell)/\(∀y∈scope.names,y.2=.local->scope.names.lookup y.1=some .local) /\ (∀y∈scope.names,y.2=.free->(ct.S.lookup y.1=some .cell\/ct.S.lookup y.1=some .free))/\(t::frees scope).Nodup/\(scope.names.lookup t=some .local\/scope.names.lookup t=some .cell)/\∀x∈frees scope,scope.names.lookup x=some .free:=by
 unfold yv at h;simp only[Mb]at h;obtain⟨⟨⟨⟨⟨⟨f,a⟩,g⟩,i⟩,c⟩,d⟩,b⟩:=h;refine⟨Mz f,λy hy e=> ?_,λy hy e=> ?_,λy hy e=> ?_,NA c,by simpa using d,λx hx=> ?_⟩
 .have:=Mn.mp a y hy
  rw[e]at this
  simpa using this
 .have:=Mn.mp g y hy
  rw[e]at this
  simpa using this
 .have:=Mn.mp i y hy
  rw[e]at this
  simpa using this
 .have:=Mn.mp b x hx
  simpa using this
theorem g9{a:Env}:∀{names:List (Str×NameKind)}{x:Str},names.lookup x=some .cell -> (names.map λ(n,k)=>if(k==NameKind.free&&a.scope.kind== .function&&a.kindOf n==some .cell)then(n,NameKind.cell)else(n,k)).lookup x=some .cell
 |[],_,h=>by simp at h|(n,k)::r,x,h=>by
  have d:= @g9 a r x;show List.lookup x ((if(k==NameKind.free&&a.scope.kind== .function&&a.kindOf n==some .cell)=true then(n,NameKind.cell)else(n,k))::_)=_;cases b:x==n with
  |true =>simp only[NS,b]at h;cases h;rw[MY (by simp)];simp only[NS,b]
  |false =>
   simp only[NS,b]at h
   by_cases c:(k==NameKind.free&&a.scope.kind== .function&&a.kindOf n==some .cell)=true;rw[Ma c];simp only[NS,b];exact d h;rw[MY c];simp only[NS,b];exact d h
theorem gq{scope:Scope}{t:Str}(h:scope.names.lookup t=some .local\/scope.names.lookup t=some .cell):L2.Loc (bE X f scope e b c d a).env.scope t:=by
 rcases h with h|h
 .exact .inl (lookup_relabel_local h)
 .exact .inr (g9 h)
theorem kc{scope:Scope}{t:Str}(h:scope.names.lookup t=some .local\/scope.names.lookup t=some .cell):(bE X f scope e b c d a).fn t=true\/(bE X f scope e b c d a).env.scope.names.lookup t=some .local:=by
 rcases h with h|h
 .exact .inr (lookup_relabel_local h)
 .left
  show(scope.names.lookup t==some .cell)=true;rw[h];rfl
set_option tactic.hygienic true in
theorem bh.blk{cd:Nat->List PV->Option PV}{ct:Ct}(C:bh cd X ct){t:Str}{scope:Scope}(h:yv ct t scope=true)(Cf:Addr)(s2:Shared)(H2:Hp)(fp:List Addr)(cl:List (Str×Addr)):bh cd (bE X (t::frees scope) scope Cf s2 H2 fp cl) (blk ct t scope):=by
 obtain⟨h1,h2,h3,h4,h5,h6,h7⟩:=lX h;refine⟨rfl,h5,?_,h1,C.calm,C.glob,C.bl,C.fns,OA,C.un⟩;show(scope.names.map fun(n,k)=>if(k==NameKind.free&&X.env.scope.kind== .function&&X.env.kindOf n==some .cell)then(n,NameKind.cell)else(n,k))=nU ct.S scope.names;unfold nU;refine NO fun y hy=> ?_;obtain⟨n,k⟩:=y;have e:(X.env.scope.kind==ScopeKind.function)=true:=by rw[C.kind];rfl
 have e2:X.env.kindOf n=ct.S.lookup n:=by
  show X.env.scope.names.lookup n=_;rw[C.S]
 dsimp only;rw[e,e2]
theorem fq{ct:Ct}{t:Str}{scope:Scope}(h:iI ct t a scope=true):scope.kind=.function/\(∀y∈scope.names,y.2=.cell->scope.names.lookup y.1=some .cell)/\(∀y∈scope.names,y.2=.local->scope.names.lookup y.1=some .local) /\ (∀y∈scope.names,y.2=.free->(ct.S.lookup y.1=some .cell\/ct.S.lookup y.1=some .free))/\(t::a::frees scope).Nodup/\(scope.names.lookup t=some .local\/scope.names.lookup t=some .cell)/\(scope.names.lookup a=some .local\/scope.names.lookup a=some .cell)/\∀x∈frees scope,scope.names.lookup x=some .free:=by
 unfold iI at h;simp only[Mb]at h;obtain⟨⟨⟨⟨⟨⟨⟨g,b⟩,j⟩,l⟩,d⟩,f⟩,i⟩,c⟩:=h;refine⟨Mz g,λy hy e=> ?_,λy hy e=> ?_,λy hy e=> ?_,NA d,by simpa using f,by simpa using i,λx hx=> ?_⟩
 .have:=Mn.mp b y hy
  rw[e]at this
  simpa using this
 .have:=Mn.mp j y hy
  rw[e]at this
  simpa using this
 .have:=Mn.mp l y hy
  rw[e]at this
  simpa using this
 .have:=Mn.mp c x hx
  simpa using this
set_option tactic.hygienic true in
theorem bh.blk2{cd:Nat->List PV->Option PV}{ct:Ct}(C:bh cd X ct){t t2:Str}{scope:Scope}(h:iI ct t t2 scope=true)(Cf:Addr)(s2:Shared)(H2:Hp)(fp:List Addr)(cl:List (Str×Addr)):bh cd (bE X (t::t2::frees scope) scope Cf s2 H2 fp cl) (blk2 ct t t2 scope):=by
 obtain⟨h1,h2,h3,h4,h5,h6,h8,h7⟩:=fq h;refine⟨rfl,h5,?_,h1,C.calm,C.glob,C.bl,C.fns,OA,C.un⟩;show(scope.names.map fun(n,k)=>if(k==NameKind.free&&X.env.scope.kind== .function&&X.env.kindOf n==some .cell)then(n,NameKind.cell)else(n,k))=nU ct.S scope.names;unfold nU;refine NO fun y hy=> ?_;obtain⟨n,k⟩:=y;have e:(X.env.scope.kind==ScopeKind.function)=true:=by rw[C.kind];rfl
 have e2:X.env.kindOf n=ct.S.lookup n:=by
  show X.env.scope.names.lookup n=_;rw[C.S]
 dsimp only;rw[e,e2]
theorem gt{g:Nat->List PV->Option PV}{ct:Ct}(C:bh g X ct){scope:Scope}:∀{b:List Str}{a:List Nat},slots ct.N b=some a->(∀x∈b,scope.names.lookup x=some .free/\(ct.S.lookup x=some .cell\/ct.S.lookup x=some .free))->bV X scope b (a.map some)
 |[],a,h,_=>by cases h;exact True.intro|x::b,a,h,k=>by
  unfold slots at h;cases e:slot ct.N x with
  |none=>rw[e]at h;cases h|some j =>
   rw[e]at h;cases c:slots ct.N b with
   |none=>simp[c]at h|some i =>simp[c]at h;subst h;obtain⟨f,d⟩:=k x MX;exact⟨⟨by rw[C.N];exact fm e,f,by rwa[C.S]⟩,gt C c λy hy=>k y (MW _ hy)⟩
theorem BJ{t:TV}(h:t.ob=some x):t≠.un:=λe=>by subst e;cases h
theorem al.block{K:W.Frag}{c:List Nat}(R:al K Hi O τ s H)(nd:c.Nodup)(r:Rp K Hi n x (aV H O) u) :
  al K Hi O (.frz x n::c.map λi=>τ.getD i .un) (some u::bP (c.map some) s) H:=by
 have f:∀(j:Nat)v,(c.map λi=>τ.getD i .un)[j]? =some v->v≠.un->∃i,c[j]? =some i/\τ[i]? =some v:=λj v e hv=>by
  rw[Mp]at e;cases J:c[j]? with
  |none=>rw[J]at e;cases e|some i =>
   rw[J]at e;refine⟨i,rfl,?_⟩;have e:τ.getD i .un=v:=Mx e;rw[Mf]at e;cases I:τ[i]? with
   |none=>rw[I]at e;exact absurd e.symm hv|some w=>rw[I]at e;exact NG some e
 have d:∀j i,c[j]? =some i->(bP (c.map some) s)[j]? =some ((s[i]?).join):=λj i e=>by unfold bP;rw[Mp,Mp,e];rfl
 refine⟨R.same,R.own,λj v m e=> ?_,λj t bd ys m e ht=> ?_,λa b t t' x1 y1 l p ht q ht' h g=> ?_⟩
 .cases j with
  |zero =>obtain⟨rfl,rfl⟩:=e;exact⟨u,by simp,r⟩
  |succ j =>obtain⟨i,h,g⟩:=f j _ (by simpa using e) (by simp);obtain⟨w,E,C⟩:=R.frz i v m g;exact⟨w,by rw[OM,d j i h,E];rfl,C⟩
 .cases j with
  |zero =>simp at e;subst e;cases ht
  |succ j =>obtain⟨i,h,g⟩:=f j _ (by simpa using e) (BJ ht);obtain⟨l,Y,o,E,C⟩:=R.obs i t bd ys m g ht;exact⟨l,Y,o,by rw[OM,d j i h,E];rfl,C⟩
 .cases a with
  |zero =>simp at p;subst p;cases ht
  |succ a =>
   cases b with
   |zero =>simp at q;subst q;cases ht'
   |succ b =>
    obtain⟨i,y,N⟩:=f a _ (by simpa using p) (BJ ht);obtain⟨j,z,L⟩:=f b _ (by simpa using q) (BJ ht');rw[OM,d a i y]at h;rw[OM,d b j z]at g;obtain⟨Z,A,U⟩:=x1;obtain⟨T,D,n2⟩:=y1;obtain⟨l1,a0,o1,Q,_⟩:=R.obs i t Z A U N ht;obtain⟨l2,S,o2,M,_⟩:=R.obs j t' T D n2 L ht';rw[Q]at h;rw[M]at g;cases h;cases g;have e:=R.dst i j t t' _ _ l N ht L ht' Q M;subst e
    congr 1
    have ha:=(Mh.mp y).1;have hb:=(Mh.mp z).1;have p:c[a]=i:=by rw[Mk ha]at y;exact Mx y
    have q:c[b]=i:=by rw[Mk hb]at z;exact Mx z
    exact(List.getElem_inj nd).mp (p.trans q.symm)
theorem gm{N:List Str}:∀{b:List Str}{a:List Nat},slots N b=some a->b.Nodup->a.Nodup
 |[],a,h,_=>by cases h;exact List.nodup_nil|x::b,a,h,nd=>by
  unfold slots at h;cases e:slot N x with
  |none=>rw[e]at h;cases h|some j =>
   rw[e]at h;cases c:slots N b with
   |none=>simp[c]at h|some i =>simp[c]at h;subst h;refine M9.mpr ⟨λhm=> ?_,gm c (M9.mp nd).2⟩;obtain⟨k,f⟩:=List.mem_iff_getElem?.mp hm;obtain⟨y,g,d⟩:=rD c f;rw[fm e]at d;cases d;exact(M9.mp nd).1 (Mu g)
set_option tactic.hygienic true in
theorem al.hide{K:W.Frag}(R:al K Hi O τ j H)(s:aD H a)(h:H D=none)(p:a D=some (.lst r)):al K Hi (D::O) τ j a :=by
 have m:aD (aV H O) (aV a (D::O)):=λb o e=>by
  unfold aV at e ⊢
  split at e;cases e
  .rename_i w
   rw[MY (by simp[aE e h,w])];exact s b o e
 refine⟨R.same.trans s,λl c=> ?_,λi v n e=> ?_,λi t b xs n e ht=> ?_,R.dst⟩
 .rcases Ml.mp c with rfl|c
  .exact⟨R.same.free h,_,p,.lst⟩
  .obtain⟨q,d,e,x⟩:=R.own l c
   exact⟨q,d,s _ _ e,x⟩
 .obtain⟨u,g,f⟩:=R.frz i v n e
  exact⟨u,g,f.mono m⟩
 .obtain⟨l,d,o,g,f,A,C,z⟩:=R.obs i t b xs n e ht
  exact⟨l,d,o,g,MW _ f,s _ _ A,C,z.mono m⟩
theorem pJ(h:cM e=false):∀x,foldedSetIterable e d x=pure x:=by
 intro x;cases e with
 |Set a b c=>cases h|_=>rfl
def Ln(e:Nat->List PV->Option PV)(a:GP)(c:IE)(n:Bool)(d:En):PV->Option (Option (PV×Bool)):=λx=>(jc e a (.frz x (n||imm x)::d)).bind λb=>if b then(aS e c (.frz x (n||imm x)::d)).bind λr=>r.keep.map some else some none
set_option tactic.hygienic true in
theorem BX{scope:Scope}
  (ge:kM X Hi τ tg T f n b) (hz:f.length<=LN) (a9:∀(Cf:Addr)(s2:Shared)(H2:Hp)(fp:List Addr)(cl:List (Str×Addr)),bh N (bE X Nn scope Cf s2 H2 fp cl) a0)
  (a4:∀(X' :Cx)(L :En)(k:Bool),bh N X' a0->jc N I L =some k->∃tt,zW X' a7 tt/\∀(O:List Addr)(E:L2.St)(H:Hp)(Q:Bool->Hp->Prop),al X'.K Hi O L E H->(∀H',aD H H' ->Q k H')->tt E H Q)
  (a5:∀(X' :Cx)(L :En)(r:RV),bh N X' a0->aS N p L =some r->aH X' Hi L a6 r)
  (a':∀(O:List Addr)(E:L2.St)(D:Addr)(x:PV)(U:Option (PV×Bool))(u:V)(M :Hp)(Cf:Addr)(s2:Shared)(H2:Hp)(fp:List Addr)(cl:List (Str×Addr)),CF x=some U->al X.K Hi (D::O) τ E M ->Rp X.K Hi n x (aV M (D::O)) u -> ∃(h:En)(Z:L2.St)(g:TG),((jc N I h).bind λt=>if t then(aS N p h).bind λr=>r.keep.map some else some none)=some U/\al X.K Hi (D::O) h Z M /\PG (bE X Nn scope Cf s2 H2 fp cl) tg g /\ ∀K:L2.St->Hp->Prop,K Z M ->g u (bP a1 E) M λσ2 H3=>(σ2.length=Nn.length/\∀(j:Nat)(v:V),(bP a1 E)[j]? =some (some v)->σ2[j]? =some (some v))/\K σ2 H3)
  (b0:bg CF f=some (VS,NN)) (O:List Addr) (E:L2.St) (H:Hp) (Q:VK) (R:al X.K Hi O τ E H) (q:∀u H',aD H H' ->af X.K Hi O H H' (.own VS NN) u->Q u H'):Gi X Nn a1 scope tg a7 a6 (λσ H R=>WI X tg T E H R) E H Q:=by
 refine ge O E H _ R λJ H1 s1 En=> ?_;intro D hD;have ok:∀(G:Hp)(s:List V),aD H1 G->G D=some (.lst s)->(if b=true then OkB H1 else GM (aV H1 O)) G (D::O):=by
  intro G s J Y;have ls:wC (D::O) G:=λl hl=>by
   rcases Ml.mp hl with rfl|hl
   .exact⟨_,Y,.lst⟩
   .obtain⟨us,e,mo⟩:=(R.own l hl).2
    exact⟨us,J _ _ (s1 _ _ e),mo⟩
  cases b with
  |true=>exact⟨ls,J⟩|false =>
   refine⟨ls,λc o e=> ?_⟩;unfold aV at e ⊢
   split at e;cases e
   .rename_i nb
    have ne:c≠D:=aE e hD;rw[MY (by simp[ne,nb])];exact J c o e
 refine⟨λi m s G=>m=f.length-i/\i<=f.length/\aD H1 G/\G D=some (.lst s)/\s.length<=i/\∃dn ws mm,bg CF (f.drop i)=some (ws,mm)/\VS=dn++ws/\(NN=true->mm=true)/\aG X.K Hi NN dn (aV G (D::O)) s,⟨f.length,by simp,M6 _,aI hD _,aB,Mc _,[],VS,NN,b0,rfl,id,.nil⟩,?_⟩
 rintro i m s G ⟨rfl,hi,J,Y,b4,dn,ws,mm,a,hv,hn,hr⟩
 by_cases A:i<f.length
 .refine .inr ⟨En.go G (D::O) i (ok G s J Y) A,λu M y=> ?_⟩
  obtain⟨C,x,hx,rx⟩:=En.yld G (D::O) i u M (ok G s J Y) A y;intro Cf s2 H2 fp cl;have C' :=a9 Cf s2 H2 fp cl;have hd:f.drop i=x::f.drop (i+1):=by rw[Od A];rw[Mk A]at hx;rw[Mx hx]
  rw[hd]at a;unfold bg at a;cases d:CF x with
  |none=>rw[d]at a;cases a|some U =>
   rw[d]at a;cases S:bg CF (f.drop (i+1))with
   |none=>rw[S]at a;cases a|some w =>
    obtain⟨a8,a3⟩:=w;rw[S]at a;have W :M D=some (.lst s):=C _ _ Y;obtain⟨h,Z,g,d,RB,pg,hg⟩:=a' O E D x U u M Cf s2 H2 fp cl d (R.hide (s1.trans (J.trans C)) (s1.free hD) W) rx;cases a2:jc N I h with
    |none=>rw[a2]at d;cases d|some k =>
     rw[a2]at d;obtain⟨tt,b3,b1⟩:=a4 _ _ _ C' a2;refine⟨g,tt,_,pg,b3,aX,hg _ ?_⟩;refine b1 (D::O) _ M _ RB λG4 s4=> ?_;cases k with
     |false =>rw[MY MZ];cases d;cases a;exact⟨f.length-(i+1),by omega,rfl,A,J.trans (C.trans s4),s4 _ _ W,by omega,dn,ws,mm,S,hv,hn,hr.mono (aO (C.trans s4))⟩
     |true =>
      rw[Ma rfl];cases he:aS N p h with
      |none=>rw[he]at d;cases d|some r =>
       rw[he]at d;have d:r.keep.map some=some U:=d;cases hk:r.keep with
       |none=>rw[hk]at d;cases d|some vn =>
        obtain⟨v,nv⟩:=vn;rw[hk]at d;cases d;have a:some (v::a8,nv&&a3)=some (ws,mm):=a;cases a;refine a5 _ _ _ C' he (D::O) _ G4 _ (RB.ext s4) λw G5 s5 r5=> ?_;have b5 :f.length<=16777216:=hz;refine⟨s5 _ _ (s4 _ _ W),by rw[eN];omega,f.length-(i+1),by omega,rfl,A,(J.trans (C.trans (s4.trans s5))).upd hD,aB,by rw[Mj];simp;omega,dn++[v],a8,a3,S,by rw[hv];simp,λz=> ?_,?_⟩
        .have:=hn z
         rw[Mb]at this;exact this.2
        .have e:aV (L2.upd G5 D (.lst (s++[w]))) (D::O)=aV G5 (D::O):=by
          funext c
          unfold aV
          split;rfl
          .rename_i nc
           exact aA λz=>nc (z▸MX)
         rw[e];refine(hr.mono (aO (C.trans (s4.trans s5)))).app (.cons ((r5.keep (RB.ext s4) s5 hk).low λz=> ?_) .nil);have:=hn z;rw[Mb]at this;exact this.1
 .have e:i=f.length:=by omega
  subst e;rw[List.drop_length]at a;cases a;refine .inl ⟨En.stop G (D::O) (ok G s J Y),q _ _ (s1.trans J) ?_⟩;refine⟨D,s,rfl,s1.free hD,Y,?_⟩;rw[hv,NP];refine hr.mono λc o e=> ?_;unfold aV at e;unfold aV del
  split at e;cases e
  .rename_i nc
   have n1:c≠D:=λz=>nc (z▸MX);have n2:c∉O:=λz=>nc (MW _ z);rwa[MY n2,MY n1]
theorem Ea{ct:Ct}(C:bh m X ct){t:Str}{elt:Expr}{ifs:List Expr}{scope:Scope}
  (h:yv ct t scope=true) (J:slots ct.N (frees scope)=some a) (T:cM c=false) (ge:kM X Hi τ (.Name t L) c I n b) (hz:I.length<=LN)
  (q:∀(o :Cx)(d :En)(k:Bool),bh m o (blk ct t scope)->jc m g d =some k->∃U,zW o ifs U/\∀(O:List Addr)(f:L2.St)(H:Hp)(Q:Bool->Hp->Prop),al o.K Hi O d f H->(∀l,aD H l ->Q k l)->U f H Q)
  (A:∀(o :Cx)(d :En)(r:RV),bh m o (blk ct t scope)->aS m j d =some r->aH o Hi d elt r)
  (w:bg (Ln m g j n (a.map λi=>τ.getD i .un)) I=some (VS,NN)):bV X scope (t::frees scope) (none::a.map some)/\eW X.env.scope scope=true /\ ∀(O:List Addr)(f:L2.St)(H:Hp)(Q:VK),al X.K Hi O τ f H->(∀u l,aD H l ->af X.K Hi O H l (.own VS NN) u->Q u l)->Gi X (t::frees scope) (none::a.map some) scope (.Name t L) ifs elt (λσ H R=>WI X (.Name t L) c f H R) f H Q:=by
 obtain⟨h1,h2,h3,Y,W,Z,M⟩:=lX h;have p:=λx hx=>NI (M x hx);have E:eW X.env.scope scope=true:=by
  unfold eW;rw[Mn];intro y hy;rw[C.S]
  by_cases e:y.2=.free
  .rcases Y y hy e with z|z<;>simp[e,z]
  .simp[e]
 refine⟨gt C J λx hx=>⟨M x hx,Y _ (p x hx) rfl⟩,E,BX ge hz (C.blk h) q A (λO f D x r0 u G' Cf s2 H2 fp cl hf R rx=> ?_) w⟩;exact⟨_,some u::bP (a.map some) f,tH 0,hf,R.block (gm J (M9.mp W).2) rx.up,av W rfl (gq Z) (kc Z),λK k=>⟨uD (by simp[jQ J]),k⟩⟩
theorem al.consF{K:W.Frag}(R:al K Hi O τ f H)(r:Rp K Hi n x (aV H O) u):al K Hi O (.frz x n::τ) (some u::f) H:=by
 refine⟨R.same,R.own,λj v m e=> ?_,λj t bd ys m e ht=> ?_,λa b t t' x1 y1 l e1 ht e2 ht' h1 h2=> ?_⟩
 .cases j with
  |zero =>obtain⟨rfl,rfl⟩:=e;exact⟨u,by simp,r⟩
  |succ j =>obtain⟨w,c,d⟩:=R.frz j v m (by simpa using e);exact⟨w,by simpa using c,d⟩
 .cases j with
  |zero =>simp at e;subst e;cases ht
  |succ j =>obtain⟨l,g,o,c,d⟩:=R.obs j t bd ys m (by simpa using e) ht;exact⟨l,g,o,by simpa using c,d⟩
 .cases a with
  |zero =>simp at e1;subst e1;cases ht
  |succ a =>
   cases b with
   |zero =>simp at e2;subst e2;cases ht'
   |succ b=>rw[R.dst a b t t' x1 y1 l (by simpa using e1) ht (by simpa using e2) ht' (by simpa using h1) (by simpa using h2)]
theorem oO{b:List Str}(h:r.length+2=b.length) :
  (((bP (none::none::r) a).set 0 (some x)).set 1 (some y)).length=b.length/\∀(j:Nat)(v:V),(bP (none::none::r) a)[j]? =some (some v)->(((bP (none::none::r) a).set 0 (some x)).set 1 (some y))[j]? =some (some v):=by
 refine⟨by rw[OE,OE];simp[bP,h],λj v e=> ?_⟩;cases j with
 |zero=>simp[bP]at e|succ j =>
  cases j with
  |zero=>simp[bP]at e|succ j=>simpa [bP]using e
def CS(f:Nat->List PV->Option PV)(c:GP)(d:IE)(n:Bool)(e:En):PV->Option (Option (PV×Bool)):=λx=>(sA x).bind λ(a,b)=>(jc f c (.frz a (n||imm a)::.frz b (n||imm b)::e)).bind λt=>if t then(aS f d (.frz a (n||imm a)::.frz b (n||imm b)::e)).bind λr=>r.keep.map some else some none
theorem BW{ct:Ct}(C:bh q X ct){t:Str}{o:Pos}{elt:Expr}{ifs:List Expr}{scope:Scope}
  (h:iI ct t f scope=true) (Z:slots ct.N (frees scope)=some a) (a0:cM c=false) (ge:kM X Hi τ (.Tuple [.Name t tp,.Name f o] U m) c W n b) (hz:W.length<=LN)
  (A:∀(s :Cx)(d :En)(k:Bool),bh q s (blk2 ct t f scope)->jc q j d =some k->∃tt,zW s ifs tt/\∀(O:List Addr)(g:L2.St)(H:Hp)(Q:Bool->Hp->Prop),al s.K Hi O d g H->(∀p,aD H p ->Q k p)->tt g H Q)
  (L:∀(s :Cx)(d :En)(r:RV),bh q s (blk2 ct t f scope)->aS q l d =some r->aH s Hi d elt r)
  (J:bg (CS q j l n (a.map λi=>τ.getD i .un)) W=some (VS,NN)):bV X scope (t::f::frees scope) (none::none::a.map some)/\eW X.env.scope scope=true /\ ∀(O:List Addr)(g:L2.St)(H:Hp)(Q:VK),al X.K Hi O τ g H->(∀u p,aD H p ->af X.K Hi O H p (.own VS NN) u->Q u p)->Gi X (t::f::frees scope) (none::none::a.map some) scope (.Tuple [.Name t tp,.Name f o] U m) ifs elt (λσ H R=>WI X (.Tuple [.Name t tp,.Name f o] U m) c g H R) g H Q:=by
 obtain⟨h1,h2,h3,h4,Y,h6,h8,h7⟩:=fq h;have v:=λx hx=>NI (h7 x hx);have T:eW X.env.scope scope=true:=by
  unfold eW;rw[Mn];intro y hy;rw[C.S]
  by_cases e:y.2=.free
  .rcases h4 y hy e with z|z<;>simp[e,z]
  .simp[e]
 refine⟨gt C Z λx hx=>⟨h7 x hx,h4 _ (v x hx) rfl⟩,T,BX ge hz (C.blk2 h) A L (λO g D x r0 u G' Cf s2 H2 fp cl hf R rx=> ?_) J⟩;unfold CS at hf;obtain⟨x1,x2,rfl⟩:∃x1 x2,x=.tup [x1,x2]:=by
  cases M:sA x with
  |none=>rw[M]at hf;cases hf|some w =>
   unfold sA at M
   split at M;exact⟨_,_,rfl⟩;cases M
 obtain⟨pa,us,rfl,lt,rt⟩:=Rp.tup.mp rx;obtain⟨u1,a2,rfl,ra,rt⟩:=rt;obtain⟨u2,a1,rfl,rb,rt⟩:=rt;subst rt
 exact⟨_,some u1::some u2::bP (a.map some) g,_,hf,(R.block (gm Z (M9.mp (M9.mp Y).2).2) rb.up).consF ra.up,lD (C.blk2 h Cf s2 H2 fp cl).calm (b9 (av Y rfl (gq h6) (kc h6)) (b9 (av Y rfl (gq h8) (kc h8)) iB rfl) rfl) rfl rfl,λK k=>⟨pa,_,rfl,(aQ).tup lt,rfl,u1,_,rfl,u2,_,rfl,rfl,⟨oO (by simp[jQ Z]),k⟩⟩⟩
theorem D4{t:TE}(h:PE X e t):PE X e (λσ H Q=>t σ H λv H' =>∃a o kvs,H' a=some (.frz o (.dK kvs))/\NF X a/\Q v (L2.upd H' a (.dK kvs))):=by intro pins s σ H Q I hr;refine aj (h pins s σ H _ I hr) λu s1 q=> ?_;obtain⟨v,H',I',rv,a,o,kvs,ha,nf,q⟩:=q;exact⟨v,_,I'.unknown nf ha,rv,q⟩
set_option tactic.hygienic true in
theorem BV{t:Option TV}(h:yu d t=some r):∃a b n T m c,d=.frz (.dK a b) n/\t=some (.frz (.int T) m)/\a.length<=LN/\me T a b=some c/\r=.own (c.map PV.int) true:=by
 unfold yu at h
 split at h
 .split at h
  .rename_i a b n T m f
   cases e:me T a b with
   |none=>rw[e]at h;cases h|some c=>rw[e]at h;cases h;exact⟨_,_,_,_,_,_,rfl,rfl,f,e,rfl⟩
  .cases h
 .cases h
theorem wS{n:Bool}{T:Int}:∀{b:List ag}{a:List PV}{f:List Int}{G:Hp}{g:List V},me T b a=some f->aG X.K Hi n a G g->∃d:List (Int×Int),b.zip g=d.map (λq=>(Sum.inl q.1,V.int q.2))/\d.length=b.length/\f=(d.filter λq=>decide (Builtin.bitAnd q.1 T=0)).map (·.2)
 |[],a,f,G,g,h,r=>by
  cases a with
  |nil=>cases h;exact⟨[],rfl,rfl,rfl⟩|cons v a=>cases h
 |k::b,a,f,G,g,h,r=>by
  cases a with
  |nil=>cases k<;>cases h|cons v a =>
   cases k with
   |inr z=>cases v<;>cases h|inl k =>
    cases v with
    |int v =>
     have h:(me T b a).map (λr=>if Builtin.bitAnd k T=0 then v::r else r)=some f:=h;cases e:me T b a with
     |none=>rw[e]at h;cases h|some w =>
      rw[e]at h;obtain⟨u,p,rfl,j,s⟩:=r;obtain⟨d,i,o,l⟩:=wS e s;have m:=Rp.int.mp j;subst m;have h:=Mx h;refine⟨(k,v)::d,by rw[Pr,i];rfl,by simp[o],?_⟩;rw[<- h,l]
      by_cases c:Builtin.bitAnd k T=0<;>simp[c]
    |_=>cases h
theorem rG{n:Bool}{G:Hp}:∀{a:List Int},aG X.K Hi n (a.map PV.int) G (a.map V.int)
 |[]=>.nil|_::_=>.cons (Rp.int.mpr rfl) rG
theorem Ao{K:W.Frag}{G:Hp}{a b c:Int}:al K (λ_=>none) [] [.frz (.int a) true,.frz (.int b) true,.frz (.int c) true] [some (.int a),some (.int b),some (.int c)] G:=by
 refine⟨λ_ _ e=>(by cases e),λl hl=>(by cases hl),λj v m e=> ?_,λj t bd ys m e ht=> ?_,λi j t t' x y l e1 ht=> ?_⟩
 .match j,e with
  |0,e=>cases e;exact⟨_,rfl,Rp.int.mpr rfl⟩|1,e=>cases e;exact⟨_,rfl,Rp.int.mpr rfl⟩|2,e=>cases e;exact⟨_,rfl,Rp.int.mpr rfl⟩|j+3,e=>simp at e
 .match j,e with
  |0,e=>cases e;cases ht|1,e=>cases e;cases ht|2,e=>cases e;cases ht|j+3,e=>simp at e
 .match i,e1 with
  |0,e=>cases e;cases ht|1,e=>cases e;cases ht|2,e=>cases e;cases ht|j+3,e=>simp at e
theorem IN{ct:Ct}(C:bh E X ct){t:Str}{k:Nat}{scope:Scope}(h:iI ct x y scope=true)(hf:frees scope=[t])
  (v0:bW (blk2 ct x y scope) x=.var 0) (v1:bW (blk2 ct x y scope) y=.var 1) (v2:bW (blk2 ct x y scope) t=.var 2) (hi:slot ct.N t=some i) (Z:ki d=true) (v:(ap.endLine==cp.line)=true) (hd:aH X Hi τ d ra) (hr:yu ra τ[i]? =some r) :
  aH X Hi τ (.ListComp (.Name y p9) [⟨.Tuple [.Name x p1,.Name y p2] k p3,.Call (.Attribute d "items" ap) [] [] cp,[.Compare (.BinOp (.Name x p4) .BitAnd (.Name t p5) p6) [.Eq] [.Constant (.int 0) k2 p7] p8],0⟩] scope lp) r:=by
 obtain⟨ks,vs,nn,T,nt,ns,rfl,a8,hz,hs,rfl⟩:=BV hr;obtain⟨h1,h2,h3,h4,h5,h6,h8,h7⟩:=fq h;have hc:slots ct.N (frees scope)=some [i]:=by rw[hf];unfold slots;rw[hi];rfl
 have Y:bV X scope (x::y::frees scope) (none::none::[some i]):=gt C hc λz hz=>⟨h7 z hz,h4 _ (NI (h7 z hz)) rfl⟩;have a4:eW X.env.scope scope=true:=by
  unfold eW;rw[Mn];intro y hy;rw[C.S]
  by_cases e:y.2=.free
  .rcases h4 y hy e with z|z<;>simp[e,z]
  .simp[e]
 obtain⟨a1,a2,a3,rfl⟩:=yT Z;intro O σ H Q R q;refine we (D4 (A8 C.calm (sM aX rfl v) Y h1 h2 h3 a4 (λ_=>rfl))) ?_;refine hd O σ H _ R λu H1 s1 r1=> ?_;obtain⟨p,us,rfl,_,U,hl,rl⟩:=r1;obtain⟨f,e1,e2,e3⟩:=wS hs rl;obtain⟨w,a0,rw⟩:=R.frz i _ _ a8;have hw:=Rp.int.mp rw;subst hw;have U:=aQ _ _ U;rw[e1]at U;refine⟨p,_,rfl,U,λo nf D hD=> ?_⟩;have M:D≠p:=λe=>by subst e;rw[aB]at hD;cases hD
 have n :∀G,aD (L2.upd H1 p (.frz o (.dK (f.map λq=>(Sum.inl q.1,V.int q.2))))) G->G p=some (.frz o (.dK (f.map λq=>(Sum.inl q.1,V.int q.2)))):=λG s=>s _ _ aB
 refine⟨λi m J G=>m=f.length-i/\i<=f.length/\aD (L2.upd H1 p (.frz o (.dK (f.map λq=>(Sum.inl q.1,V.int q.2))))) G/\G D=some (.lst J)/\J.length<=i/\ns.map V.int=J++((f.drop i).filter λq=>decide (Builtin.bitAnd q.1 T=0)).map λq=>V.int q.2,⟨f.length,by simp,M6 _,aI hD _,aB,Mc _,by rw[e3];simp⟩,?_⟩
 rintro j m J G ⟨rfl,hj,I,gD,b1,A⟩
 by_cases g:j<f.length
 .refine .inr ⟨⟨n G I,by rwa[MT]⟩,λu G' y' => ?_⟩
  obtain⟨a,ha,rfl,y'⟩:=y';have e:=y' (.inl f[j].1) (.int f[j].2) (by simp[g]);subst e;intro Cf s2 H2 fp cl;have W :=C.blk2 h Cf s2 H2 fp cl;have l:aD G (L2.upd G a (.tup [kV (.inl f[j].1),.int f[j].2])):=aI ha _;refine⟨_,_,_,lD W.calm (b9 (av (i:=0) h5 rfl (gq h6) (kc h6)) (b9 (av (i:=1) h5 rfl (gq h8) (kc h8)) iB rfl) rfl) rfl rfl,lB kF,aX,?_⟩;refine⟨a,_,rfl,bT.of aB,rfl,_,_,rfl,_,_,rfl,rfl,⟨oO (by rw[hf];rfl),?_⟩⟩;have a5:((bP (none::none::[some i]) σ).set 0 (some (kV (.inl f[j].1)))).set 1 (some (.int f[j].2))=[some (.int f[j].1),some (.int f[j].2),some (.int T)]:=by simp[bP,a0,kV]
  rw[a5];have a7:aS E (bW (blk2 ct x y scope) x) [.frz (.int f[j].1) true,.frz (.int f[j].2) true,.frz (.int T) true]=some (sc (.int f[j].1)):=by rw[v0];rfl
  have a9:aS E (bW (blk2 ct x y scope) y) [.frz (.int f[j].1) true,.frz (.int f[j].2) true,.frz (.int T) true]=some (sc (.int f[j].2)):=by rw[v1];rfl
  have a6:aS E (bW (blk2 ct x y scope) t) [.frz (.int f[j].1) true,.frz (.int f[j].2) true,.frz (.int T) true]=some (sc (.int T)):=by rw[v2];rfl
  have RB:=Ao (K:=X.K) (G:=L2.upd G a (.tup [kV (.inl f[j].1),.int f[j].2])) (a:=f[j].1) (b:=f[j].2) (c:=T);rw[Od g,N7]at A
  have hT:fB (bE X (x::y::frees scope) scope Cf s2 H2 fp cl) (λ_=>none) [.frz (.int f[j].1) true,.frz (.int f[j].2) true,.frz (.int T) true] (.Compare (.BinOp (.Name x p4) .BitAnd (.Name t p5) p6) [.Eq] [.Constant (.int 0) k2 p7] p8) (decide (Builtin.bitAnd f[j].1 T=0)) :=
   CV W.un (uF (kR W a7) (kR W a6) rfl) (tf (cd:=E) rfl) rfl rfl
  refine hT [] _ _ _ RB λG4 s4=> ?_;have b2 :=hz
  by_cases c:Builtin.bitAnd f[j].1 T=0
  .rw[Ma (by simpa using c)]at A ⊢
   refine kR W a9 [] _ G4 _ (RB.ext s4) λw G5 s5 L=> ?_;have L:Rp X.K (λ_=>none) true (.int f[j].2) (aV G5 []) w:=L;subst L;exact⟨s5 _ _ (s4 _ _ (l _ _ gD)),by rw[eN];omega,f.length-(j+1),by omega,rfl,g,(I.trans (l.trans (s4.trans s5))).upd hD,aB,by rw[Mj];simp;omega,by rw[A];simp⟩
  .rw[MY (by simpa using c)]at A ⊢
   exact⟨f.length-(j+1),by omega,rfl,g,I.trans (l.trans s4),s4 _ _ (l _ _ gD),by omega,A⟩
 .have e:j=f.length:=by omega
  subst e;refine .inl ⟨⟨n G I,by rw[MT]⟩,p,o,_,n G I,nf,?_⟩;have b0:H1 D=none:=by rwa[aA M]at hD
  refine q _ _ (λb ob e=> ?_) ⟨D,J,rfl,s1.free b0,by rwa[aA M],?_⟩
  .have e' :=s1 _ _ e
   by_cases hb:b=p
   .subst hb
    rw[U]at e';cases e';exact aB
   .rw[aA hb]
    exact I _ _ (by rwa[aA hb])
  .rw[List.drop_length,List.filter_nil,OS,NP]at A
   rw[<- A];exact rG
end
set_option tactic.hygienic false
theorem bind_some{d c:Type}{o:Option d}{f:d->Option c}{b:c}(h:o.bind f=some b):∃a,o=some a/\f a=some b:=by
 cases o with
 |none=>cases h|some a=>exact⟨a,rfl,h⟩
theorem map_some{d c:Type}{o:Option d}{f:d->c}{b:c}(h:o.map f=some b):∃a,o=some a/\f a=b:=by
 cases o with
 |none=>cases h|some a=>exact⟨a,rfl,Mx h⟩
structure kE(cd:Nat->List PV->Option PV)(n:Nat):Prop where
 e:∀(X:Cx)(ct:Ct)(Hi:Hp)(τ:En)(e:Expr)(r:RV),bh cd X ct->aS cd (am n ct e) τ=some r->aH X Hi τ e r
 cm:∀(X:Cx)(ct:Ct)(Hi:Hp)(τ:En)(a:Expr)(ops:List CmpOp)(cs:List Expr)(pos:Pos)(r:RV),bh cd X ct->aS cd (am n ct (.Compare a ops cs pos)) τ=some r->∃t,r=sc (.bl t)/\fB X Hi τ (.Compare a ops cs pos) t
 es:∀(X:Cx)(ct:Ct)(Hi:Hp)(τ:En)(es:List Expr)(rs:List RV),bh cd X ct->dG cd (fF n ct es) τ=some rs->qI X Hi τ es rs/\(∀a∈es,isStar a=false)/\es.length=rs.length/\∀(i:Nat)(a:Expr)(r:RV),es[i]? =some a->rs[i]? =some r->aH X Hi τ a r
 o:∀(X:Cx)(ct:Ct)(Hi:Hp)(τ:En)(e:Option Expr)(o:Option RV)(i:Option Int),bh cd X ct->JE cd (Fw n ct e) τ=some o->y9 o=some i->zX X Hi τ e i
 c:∀(X:Cx)(ct:Ct)(Hi:Hp)(τ:En)(e:Expr)(b:Bool),bh cd X ct->d0 cd (mZ n ct e) τ=some b->fB X Hi τ e b
 call:∀(X:Cx)(ct:Ct)(Hi:Hp)(τ:En)(x:Str)(es:List Expr)(p pos:Pos)(r:RV),bh cd X ct->aS cd (jM n ct x es) τ=some r->aH X Hi τ (.Call (.Name x p) es [] pos) r
 mth:∀(X:Cx)(ct:Ct)(Hi:Hp)(τ:En)(o:Expr)(m:Str)(es:List Expr)(ap cp:Pos)(r:RV),bh cd X ct->(ap.endLine==cp.line)=true->aS cd (nJ n ct o m es) τ=some r->aH X Hi τ (.Call (.Attribute o m ap) es [] cp) r
 t:∀(X:Cx)(ct:Ct)(Hi:Hp)(τ:En)(tp:Bool)(e tg:Expr)(xs:List PV)(k b:Bool),bh cd X ct->(tp=true->∃ts kk p,tg=.Tuple ts kk p)->qJ cd (AM n ct tp e) τ=some (xs,k,b)->kM X Hi τ tg e xs k b/\cM e=false
section
variable{cd:Nat->List PV->Option PV}
theorem jk(h:j7 v=some b):v=.bl b:=by cases v<;>first|(cases h;done)|(cases h;rfl)
theorem Bo(h:Eg v=some b):v=.int b:=by cases v<;>first|(cases h;done)|(cases h;rfl)
theorem vB{c:Type}{l:List c}(h:l.length=1):∃a,l=[a]:=by
 cases l with
 |nil=>cases h|cons a l =>
  cases l with
  |nil=>exact⟨a,rfl⟩|cons b l=>cases h
theorem uY{c:Type}{l:List c}(h:l.length=2):∃a b,l=[a,b]:=by
 cases l with
 |nil=>cases h|cons a l =>obtain⟨b,rfl⟩:=vB (show l.length=1 from Nat.succ.inj h);exact⟨a,b,rfl⟩
theorem aL(h:aS cd .never a=some r){P:Prop}:P:=by simp[eD]at h
theorem tN{X:Cx}{j:Hp}{d:En}{i:BoolOp}{pos:Pos}{f:Expr->IE}(g:∀e r,aS cd (f e) d=some r->aH X j d e r):∀{n:List Expr}{r:RV},aS cd (lw i (n.map f)) d=some r->aH X j d (.BoolOp i n pos) r
 |[],r,h=>aL h|[a],r,h=>Hr (g a r h)|a::b::aP,r,h=>by
  have m:= @tN X j d i pos f g (b::aP);cases i with
  |And =>
   have h:aS cd (.and (f a) (lw .And ((b::aP).map f))) d=some r:=h;obtain⟨x,c,h⟩:=bind_some h;have c:=g a x c;obtain⟨t,l,h⟩:=bind_some h;have e:=jk l;cases t with
   |true=>exact L4 c e (m h)|false=>cases h;exact L5 c e
  |Or =>
   have h:aS cd (.or (f a) (lw .Or ((b::aP).map f))) d=some r:=h;obtain⟨x,c,h⟩:=bind_some h;have c:=g a x c;obtain⟨t,l,h⟩:=bind_some h;have e:=jk l;cases t with
   |true=>cases h;exact or_t c e|false=>exact or_f c e (m h)
theorem tM{X:Cx}{j:Hp}{d:En}{i:BoolOp}{pos:Pos}{f:Expr->IC}(g:∀e b,d0 cd (f e) d=some b->fB X j d e b):∀{m:List Expr}{b:Bool},d0 cd (lu i (m.map f)) d=some b->nE X j d (.BoolOp i m pos) b
 |[],r,h=>by have h:d0 cd (.val .never) d=some r:=h;simp[ze,eD]at h
 |[a],r,h=>Hq (g a r h)|a::b::aP,r,h=>by
  have l:= @tM X j d i pos f g (b::aP);cases i with
  |And =>
   have h:d0 cd (.and (f a) (lu .And ((b::aP).map f))) d=some r:=h;obtain⟨x,c,h⟩:=bind_some h;have c:=g a x c;cases x with
   |true=>exact Cy c (l h)|false=>cases h;exact Cy c rfl
  |Or =>
   have h:d0 cd (.or (f a) (lu .Or ((b::aP).map f))) d=some r:=h;obtain⟨x,c,h⟩:=bind_some h;have c:=g a x c;cases x with
   |true=>cases h;exact GA c rfl|false=>exact GA c (l h)
theorem xB{X:Cx}{m:Hp}{d:En}{f:Expr->IE}(n:∀e r,aS cd (f e) d=some r->aH X m d e r):∀{c:List Expr}{b:List RV},dG cd (yr (c.map λe=>if isStar e then .never else f e)) d=some b->qI X m d c b/\(∀a∈c,isStar a=false)/\c.length=b.length/\∀(i:Nat)(a:Expr)(r:RV),c[i]? =some a->b[i]? =some r->aH X m d a r
 |[],b,h=>by
  have h:some []=some b:=by simpa [yr,Fu,zo]using h
  cases h;exact⟨Jc,λa g=>(by cases g),rfl,λi a r e=>(by simp at e)⟩
 |e::c,b,h=>by
  have h:dG cd (.cons (if isStar e then .never else f e) (yr (c.map λe=>if isStar e then .never else f e))) d=some b:=h;obtain⟨x,j,h⟩:=bind_some h;obtain⟨v,q,h⟩:=map_some h;subst h;obtain⟨p,u,o,s⟩:=xB n q;cases l:isStar e with
  |true=>rw[l]at j;exact aL j|false =>
   rw[l]at j;refine⟨Fj (n e x j) l p,λa g=> ?_,by rw[Mq,Mq,o],λi a r e1 e2=> ?_⟩
   .rcases Ml.mp g with rfl|g
    .exact l
    .exact u a g
   .cases i with
    |zero =>simp at e1 e2;subst e1 e2;exact n _ _ j
    |succ i=>exact s i a r (by simpa using e1) (by simpa using e2)
set_option tactic.hygienic true
theorem Lo(l:kE cd n){ct:Ct}{Hi:Hp}(C:bh cd X ct)(h:aS cd (am (n+1) ct (.Compare a i q pos)) g=some r) :
  ∃t,r=sc (.bl t)/\aH X Hi g (.Compare a i q pos) r/\fB X Hi g (.Compare a i q pos) t:=by
 refine Nw λno=> ?_;simp only[qb,qV,qQ,qZ,qN,qW,qY,qT,qS,qO,qU,qP,qX,qR]at h
 split at h
 .rename_i E b
  split at h;exact aL h
  .rename_i d
   have d:=OB.mpr d;obtain⟨x,v,h⟩:=bind_some h;obtain⟨y,s,h⟩:=bind_some h;obtain⟨t,j,h⟩:=map_some h;subst h;have o:=l.e X ct Hi g a x C v;have m:=l.e X ct Hi g b y C s;exact no<|⟨t,rfl,JM C.un o m d j,CV C.un o m d j⟩
 .rename_i E f b c
  split at h;exact aL h
  .rename_i d
   rw[N0,Pd]at d;obtain⟨d,D⟩:=d;have D:wo f =true:=by simpa using D
   have d:=OB.mpr d;obtain⟨x,v,h⟩:=bind_some h;obtain⟨y,s,h⟩:=bind_some h;obtain⟨t,j,h⟩:=bind_some h;have o:=l.e X ct Hi g a x C v;have m:=l.e X ct Hi g b y C s;cases t with
   |true =>obtain⟨z,I,h⟩:=bind_some h;obtain⟨p,u,h⟩:=map_some h;subst h;obtain⟨A,w⟩:=Ce C.un o m d j (by rw[Ma rfl];exact⟨z,l.e X ct Hi g c z C I,u⟩);exact no<|⟨p,rfl,A,w⟩
   |false =>cases h;obtain⟨A,w⟩:=Ce C.un o m d j (by rw[MY MZ];exact⟨rfl,uh f D⟩);exact no<|⟨false,rfl,A,w⟩
 .exact aL h
theorem Lu(D:kE cd n){ct:Ct}(C:bh cd X ct)(h:aS cd (jM (n+1) ct x g) l=some r):aH X s l (.Call (.Name x p) g [] pos) r:=by
 refine Nw λno=> ?_;simp only[z1s]at h
 split at h;exact aL h
 rename_i ho;have ho:=OB.mpr ho
 split at h
 .rename_i M
  have M:ct.S.lookup x=some .globalImplicit:=by simpa using M
  cases I:ct.F.lookup x with
  |some f =>
   rw[I]at h;cases g with
   |nil=>exact aL h|cons e g =>simp only[dU]at h;obtain⟨u,c,h⟩:=bind_some h;obtain⟨v,hv,h⟩:=map_some h;subst h;obtain⟨i1,H,O,L⟩:=D.es X ct s l (e::g) u C c;exact no<|call_ok C ho M I H i1 hv
  |none =>
   rw[I]at h;dsimp only at h
   split at h
   .rename_i hb
    have j:own ct x=true:=by unfold own;rw[hb,M];rfl
    have plain:∀{g:List Expr}{r:RV},aS cd (match mS x g.length with|some f=>IE.bf f (fF n ct g)|none=>.never) l=some r->aH X s l (.Call (.Name x p) g [] pos) r:=by
     intro g r h;cases m:mS x g.length with
     |none=>rw[m]at h;exact aL h|some f =>
      rw[m]at h;obtain⟨u,c,h⟩:=bind_some h;obtain⟨i1,H,O,L⟩:=D.es X ct s l g u C c;have R:∀a,g=[a]->aH X s l (.Call (.Name x p) g [] pos) r:=by intro a U;subst U;obtain⟨q,rfl⟩:=vB (show u.length=1 from O.symm);exact bf1_ok C j m (H a (by simp)) (L 0 a q rfl rfl) h
      have T:∀a b,g=[a,b]->aH X s l (.Call (.Name x p) g [] pos) r:=by intro a b U;subst U;obtain⟨q,rb,rfl⟩:=uY (show u.length=2 from O.symm);exact JX C j m (H a (by simp)) (H b (by simp)) (L 0 a q rfl rfl) (L 1 b rb rfl rfl) h
      have J:g.length=1\/g.length=2:=by rcases jo m with⟨_,z,_⟩|⟨_,z,_⟩|⟨_,z,_⟩|⟨_,z,_⟩|⟨_,z,_⟩|⟨_,z,_⟩|⟨_,z,_⟩|⟨_,z,_⟩|⟨_,z,_⟩|⟨_,z,_⟩|⟨_,z,_⟩<;>simp[z]
      rcases J with J|J
      .obtain⟨a,ha⟩:=vB J
       exact R a ha
      .obtain⟨a,b,ha⟩:=uY J
       exact T a b ha
    split at h
    .rename_i W
     have W:=Mz W;subst W
     split at h
     .rename_i a t a0
      split at h
      .rename_i ty Q
       split at h;exact aL h
       .rename_i w
        have w:=OB.mpr w
        split at h
        .rename_i Z
         obtain⟨u,c,h⟩:=bind_some h;obtain⟨q,o,A⟩:=bind_some c;cases A;obtain⟨b,N,h⟩:=map_some h;subst h;exact no<|isin_ok C j Q Z w (D.e X ct s l a q C o) N
        .exact aL h
      .exact aL h
     .exact aL h
    .split at h
     .rename_i y yp a a1
      split at h
      .rename_i f I
       split at h;exact aL h
       .rename_i w
        simp only[N0,Pd,PB,Bool.not_eq_false']at w;obtain⟨u,c,h⟩:=bind_some h;obtain⟨q,o,A⟩:=bind_some c;cases A;exact no<|nst_ok C j w.2 I w.1 (D.e X ct s l a q C o) h
      .exact no<|plain h
     .rename_i a2 gs scope lp
      split at h
      .rename_i d i ge
       obtain⟨rfl,E,⟨hl,g1,g2,g3,g4,g5,g6⟩⟩:=yy ge;obtain⟨u,c,h⟩:=bind_some h;obtain⟨rl,Y,A⟩:=bind_some c;obtain⟨q,o,h3⟩:=bind_some Y;cases A;exact no<|bf1_ok C j (show mS ("sum":Str) 1=some .sum from rfl) rfl (IN C g1 g2 g3 g4 g5 g6 E hl (D.e X ct s l d q C o) h3) h
      .exact no<|plain h
     .exact no<|plain h
   .exact aL h
 .exact aL h
theorem mthE(q:kE cd n){ct:Ct}{o:Expr}(C:bh cd X ct)(y:(p.endLine==l.line)=true)(h:aS cd (nJ (n+1) ct o m s) b=some r):aH X d b (.Call (.Attribute o m p) s [] l) r:=by
 refine Nw λno=> ?_;simp only[z2e]at h
 split at h
 .rename_i x
  split at h
  .rename_i a
   split at h;exact aL h
   .rename_i j
    split at h
    .rename_i f
     have f:=Mz f;subst f;obtain⟨w,g,h⟩:=bind_some h;obtain⟨z,c,h⟩:=bind_some h;obtain⟨v,i,u⟩:=bind_some c;cases u;exact no<|indexT_ok C.un x y (OB.mpr j) (q.e X ct d b o w C g) (q.e X ct d b a v C i) h
    .exact aL h
  .exact aL h
 .exact aL h
theorem LM(m:kE cd n){ct:Ct}{k:Bool}(C:bh cd X ct)(M:O=true->∃H D p,I=.Tuple H D p)(h:qJ cd (AM (n+1) ct O e) f=some (s,k,b)):kM X j f I e s k b/\cM e=false:=by
 simp only[z2y]at h
 split at h;simp[Ft]at h
 rename_i d;refine⟨?_,OB.mpr d⟩;have y:qJ cd (.seq (am n ct e)) f=some (s,k,b)->kM X j f I e s k b:=by intro h;obtain⟨r,Q,h⟩:=bind_some h;exact Gq (m.e X ct j f e r C Q) h
 have l:∀{P:Prop},qJ cd .never f=some (s,k,b)->P:=by intro P h;simp[Ft]at h
 split at h
 .rename_i a R
  split at h;exact l h
  .rename_i c
   simp only[N0,Pd,PB,Bool.not_eq_false']at c;obtain⟨p,q,rfl⟩:=yb R;obtain⟨o,g,h⟩:=bind_some h;obtain⟨w,u,h⟩:=map_some h;cases h;exact Gz C c.2 c.1 (m.e X ct j f a o C g) u
 split at h
 .rename_i x N c
  obtain⟨p,pos,rfl⟩:∃p pos,e=.Call (.Name x p) N [] pos:=by
   unfold fc at c
   split at c;cases c;exact⟨_,_,rfl⟩;cases c
  split at h
  .rename_i i
   have i:=Mz i;subst i
   split at h
   .rename_i ho
    obtain⟨W,A,h⟩:=bind_some h;obtain⟨ys,U,h⟩:=map_some h;cases h;obtain⟨T,Y,S,i4⟩:=m.es X ct j f N W C A;exact G9 C ho Y T S U
   .exact l h
  .split at h
   .rename_i i
    have i:=Mz i;subst i
    split at h
    .rename_i a b'
     split at h;exact l h
     .rename_i c
      simp only[N0,Pd,PB,ON]at c;obtain⟨⟨⟨J,c2⟩,E⟩,L⟩:=c;obtain⟨H,D,v,rfl⟩:=M (by simpa using E);obtain⟨o,g,h⟩:=bind_some h;obtain⟨Z,z,h⟩:=bind_some h;obtain⟨w,u,h⟩:=map_some h;cases h;exact GQ C (by simpa using L) J c2 (m.e X ct j f _ o C g) (m.e X ct j f _ Z C z) u
    .exact l h
   .split at h
    .rename_i i
     have i:=Mz i;subst i
     split at h
     .rename_i a
      split at h;exact l h
      .rename_i c
       simp only[N0,Pd,PB,ON]at c;obtain⟨⟨J,E⟩,L⟩:=c;obtain⟨H,D,v,rfl⟩:=M (by simpa using E);obtain⟨o,g,h⟩:=bind_some h;obtain⟨w,u,h⟩:=map_some h;cases h;exact Ey C (by simpa using L) J (m.e X ct j f _ o C g) u
     .exact l h
    .exact y h
 .exact y h
theorem lcE(o:kE cd n){ct:Ct}{Hi:Hp}{scope:Scope}(C:bh cd X ct)(h:aS cd (am (n+1) ct (.ListComp g M scope pos)) D=some r) :
  ∃U a d N' A,M=[⟨U,a,d,0⟩]/\bV X scope N' A/\scope.kind=.function/\(∀y∈scope.names,y.2=.cell->scope.names.lookup y.1=some .cell)/\(∀y∈scope.names,y.2=.local->scope.names.lookup y.1=some .local)/\eW X.env.scope scope=true/\cM a=false /\ ∀(O:List Addr)(j:L2.St)(H:Hp)(Q:VK),al X.K Hi O D j H->(∀u E,aD H E ->af X.K Hi O H E r u->Q u E)->Gi X N' A scope U d g (λσ H R=>WI X U a j H R) j H Q:=by
 refine Nw λno=> ?_;simp only[qb,qV,qQ,qZ,qN,qW,qY,qT,qS,qO,qU,qP,qX,qR]at h
 split at h
 .rename_i t x a d
  split at h
  .rename_i i
   cases l:slots ct.N (frees scope)with
   |none=>rw[l]at h;exact aL h|some s =>
    rw[l]at h;obtain⟨w,S,h⟩:=bind_some h;obtain⟨I,n',b⟩:=w;dsimp only at h
    split at h
    .rename_i W
     obtain⟨w2,m,h⟩:=map_some h;obtain⟨VS,NN⟩:=w2;subst h;obtain⟨J,f⟩:=o.t X ct Hi D false a (.Name t x) I n' b C (λz=>by cases z) S;obtain⟨g1,g2,Y,g4,g5,g6,g7⟩:=lX i;obtain⟨Z,L,q3⟩:=Ea (ifs:=d) C i l f J W (λX' τ' k C' hk=>by
      split at hk
      .simp only[GS]at hk
       cases hk;exact⟨_,lC,λO j H Q R q=>q H (aD.refl _)⟩
      .rename_i c
       exact⟨_,lB kF,λO j H Q R q=>o.c X' _ Hi τ' _ k C' hk O j H Q R q⟩
      .simp[GR,ze,eD]at hk) (λX' τ' r' C' hr' =>o.e X' _ Hi τ' g r' C' hr') m
     exact no<|⟨.Name t x,a,d,_,_,rfl,Z,g1,g2,Y,L,f,q3⟩
    .cases h
  .exact aL h
 .cases T:wJ M with
  |none=>rw[T]at h;exact aL h|some w =>
   obtain⟨t,t2,a,d⟩:=w;rw[T]at h;obtain⟨x,v,kk,p,rfl⟩:=yN T;dsimp only at h
   split at h
   .rename_i i
    cases l:slots ct.N (frees scope)with
    |none=>rw[l]at h;exact aL h|some s =>
     rw[l]at h;obtain⟨⟨I,n',b⟩,S,h⟩:=bind_some h;dsimp only at h
     split at h
     .rename_i W
      obtain⟨⟨VS,NN⟩,m,h⟩:=map_some h;subst h;obtain⟨J,f⟩:=o.t X ct Hi D true a (.Tuple [.Name t x,.Name t2 v] kk p) I n' b C (λ_=>⟨_,_,_,rfl⟩) S;obtain⟨g1,g2,Y,g4,g5,g6,g8,g7⟩:=fq i;obtain⟨Z,L,q3⟩:=BW (ifs:=d) C i l f J W (λX' τ' k C' hk=>by
       split at hk
       .simp only[GS]at hk
        cases hk;exact⟨_,lC,λO j H Q R q=>q H (aD.refl _)⟩
       .rename_i c
        exact⟨_,lB kF,λO j H Q R q=>o.c X' _ Hi τ' _ k C' hk O j H Q R q⟩
       .simp[GR,ze,eD]at hk) (λX' τ' r' C' hr' =>o.e X' _ Hi τ' g r' C' hr') m
      exact no<|⟨.Tuple [.Name t x,.Name t2 v] kk p,a,d,_,_,rfl,Z,g1,g2,Y,L,f,q3⟩
     .cases h
   .exact aL h
theorem expE(j:kE cd n){ct:Ct}(C:bh cd X ct)(h:aS cd (am (n+1) ct e) g=some r):aH X d g e r:=by
 cases e with
 |Constant c k pos=>exact tf h|Name x pos=>simp only[qQ]at h;exact kR C h|BinOp a U b pos =>simp only[qZ,dL]at h;obtain⟨x,s,h⟩:=bind_some h;obtain⟨y,J,h⟩:=bind_some h;exact uF (j.e X ct d g a x C s) (j.e X ct d g b y C J) h
 |UnaryOp U a pos =>
  simp only[qN]at h;cases U with
  |USub =>obtain⟨x,s,h⟩:=bind_some h;obtain⟨i,z,h⟩:=map_some h;subst h;exact Hy (j.e X ct d g a x C s) (Bo z)
  |Not =>obtain⟨x,s,h⟩:=bind_some h;obtain⟨i,z,h⟩:=map_some h;subst h;exact Hu (j.e X ct d g a x C s) (jk z)
  |_=>exact aL h
 |Compare a a3 cs pos =>obtain⟨t,_,I,_⟩:=Lo j C h;exact I
 |BoolOp U T pos =>
  simp only[qb,qV,qQ,qZ,qN,qW,qY,qT,qS,qO,qU,qP,qX,qR]at h
  split at h;exact aL h;exact tN (λe r h=>j.e X ct d g e r C h) h
 |IfExp c a b pos =>
  obtain⟨t,ht,h⟩:=bind_some h;refine Ic (j.c X ct d g c t C ht) ?_;cases t with
  |true=>exact j.e X ct d g a r C h|false=>exact j.e X ct d g b r C h
 |List E pos =>obtain⟨L,A,h⟩:=bind_some h;obtain⟨w,D,h⟩:=bind_some h;obtain⟨T,Z⟩:=w;exact ID (j.es X ct d g E L C A).1 D h
 |Tuple E k pos =>obtain⟨L,A,h⟩:=bind_some h;obtain⟨w,D,h⟩:=bind_some h;obtain⟨T,Z⟩:=w;exact GZ (j.es X ct d g E L C A).1 D h
 |Dict Y T pos =>
  simp only[qb,qV,qQ,qZ,qN,qW,qY,qT,qS,qO,qU,qP,qX,qR]at h
  split at h
  .simp only[eF]at h
   cases h;exact E6
  .rename_i c _ _ v
   split at h
   .simp only[di]at h
    obtain⟨x,s,h⟩:=bind_some h;obtain⟨w,D,h⟩:=bind_some h;obtain⟨v',Z⟩:=w;dsimp only at h
    split at h
    .rename_i z
     cases h;exact xZ cz (λ_ _ _ q=>q) (j.e X ct d g v x C s) D z
    .cases h
   .simp only[di]at h
    obtain⟨x,s,h⟩:=bind_some h;obtain⟨⟨v',Z⟩,D,h⟩:=bind_some h;dsimp only at h
    split at h
    .rename_i z
     cases h;exact xZ ux (λ_ _ _ q=>q) (j.e X ct d g v x C s) D z
    .cases h
   .exact aL h
  .exact aL h
 |Subscript a i pos =>
  simp only[qb,qV,qQ,qZ,qN,qW,qY,qT,qS,qO,qU,qP,qX,qR]at h
  split at h
  .rename_i lo z st sp
   cases st with
   |none =>obtain⟨x,s,h⟩:=bind_some h;obtain⟨l,M,h⟩:=bind_some h;obtain⟨u,hu,h⟩:=bind_some h;obtain⟨l',W,h⟩:=bind_some h;obtain⟨u',N,h⟩:=bind_some h;exact AY (j.e X ct d g a x C s) (j.o X ct d g lo l l' C M W) (j.o X ct d g z u u' C hu N) h
   |some st=>exact aL h
  .rename_i S
   obtain⟨x,s,h⟩:=bind_some h;obtain⟨y,J,h⟩:=bind_some h;refine Bq C.un ?_ (j.e X ct d g a x C s) (j.e X ct d g i y C J) h;cases i<;>first|rfl|(exfalso;exact S _ _ _ _ rfl)
 |Call f E Y cp =>
  simp only[qX]at h;cases Y with
  |nil =>
   cases f with
   |Name x p=>exact j.call X ct d g x E p cp r C h|Attribute o m ap =>
    dsimp only at h
    split at h
    .rename_i M
     exact j.mth X ct d g o m E ap cp r C M h
    .exact aL h
   |_=>exact aL h
  |cons k Y=>exact aL h
 |ListComp a1 gs scope pos =>obtain⟨tg,a0,a2,N',a4,rfl,I,h2,h3,h4,h5,h6,h7⟩:=lcE j C h;intro O σ H Q R q;exact we (A8 C.calm HS I h2 h3 h4 h5 (pJ h6)) (h7 O σ H Q R q)
 |_=>(try simp only[qb,qV,qQ,qZ,qN,qW,qY,qT,qS,qO,qU,qP,qX,qR]at h);exact aL h
set_option tactic.hygienic false
theorem tstE(j:kE cd n){ct:Ct}(C:bh cd X ct)(h:d0 cd (mZ (n+1) ct e) f=some b):fB X g f e b:=by
 have plain:∀{e:Expr},d0 cd (.val (am n ct e)) f=some b->(∀d,isTrue e X.env d=(do let v<-d;standAt e.pos;holding [v] (truthy v)))->fB X g f e b:=by intro e h r;obtain⟨x,m,h⟩:=bind_some h;exact GX (j.e X ct g f e x C m) h r
 cases e with
 |UnaryOp q a p =>
  simp only[KD]at h;cases q with
  |Not =>obtain⟨t,l,h⟩:=map_some h;subst h;exact Ht (j.c X ct g f a t C l)
  |_=>exact plain h λ_=>rfl
 |BoolOp q u p =>exact(tM (λe b h=>j.c X ct g f e b C h) h).tc
 |IfExp c a s p =>simp[KF,ze,eD]at h
 |Compare a i o pos =>have h:d0 cd (.val (am n ct (.Compare a i o pos))) f=some _:=h;obtain⟨x,m,h⟩:=bind_some h;obtain⟨t,rfl,l⟩:=j.cm X ct g f a i o pos x C m;cases h;exact l
 |_=>(try simp only[KH,KD,KG,KF]at h);exact plain h λ_=>rfl
set_option tactic.hygienic true in
theorem gO:∀n:Nat,kE cd n
 |0=>by
  refine⟨λX ct Hi τ e r C h=> ?_,λX ct Hi τ a ops cs pos r C h=> ?_,λX ct Hi τ es rs C h=> ?_,λX ct Hi τ e o i C h=> ?_,λX ct Hi τ e b C h=> ?_,λX ct Hi τ x es p pos r C h=> ?_,λX ct Hi τ o m es ap cp r C hl h=> ?_,λX ct Hi τ tp e tg xs k b C ht h=> ?_⟩
  .simp[qb,eD]at h
  .simp[qb,eD]at h
  .simp[z2b,Fu,zo,eD]at h
  .simp[z2f,KI,eD]at h
  .simp[KH,ze,eD]at h
  .simp[z1r,eD]at h
  .simp[z2d,eD]at h
  .simp[z2x,Ft]at h
 |n+1=>by
  have c:=gO n;refine⟨λX ct Hi τ e r C h=>expE c C h,λX ct Hi τ a ops cs pos r C h=> ?_,λX ct Hi τ es rs C h=> ?_,λX ct Hi τ e o i C h hi=> ?_,λX ct Hi τ e b C h=>tstE c C h,λX ct Hi τ x es p pos r C h=>Lu c C h,λX ct Hi τ o m es ap cp r C hl h=>mthE c C hl h,λX ct Hi τ tp e tg xs k b C ht h=>LM c C ht h⟩
  .obtain⟨t,l,_,d⟩:=Lo c C h
   exact⟨t,l,d⟩
  .simp only[z2c]at h
   exact xB (λe r h=>c.e X ct Hi τ e r C h) h
  .cases e with
   |none =>cases h;cases hi;exact True.intro
   |some e =>
    obtain⟨r,g,h⟩:=map_some h;subst h;simp only[y9]at hi
    split at hi
    .rename_i j f
     cases hi;exact⟨r,c.e X ct Hi τ e r C g,f⟩
    .cases hi
end
end IR
namespace L2
open PySem PySem.Spec PyProof.Rows
section
variable{X:Cx}{pins:List (Addr×Obj)}{σ:St}{H:Hp}{s:Shared}
set_option tactic.hygienic false
theorem Ay{scope:Scope}(hc:X.calm=true)(hi:PI X d f Y)(D:bV X scope Z E)
  (u:scope.kind=.function) (z:∀y∈scope.names,y.2=.cell->scope.names.lookup y.1=some .cell) (q:∀y∈scope.names,y.2=.local->scope.names.lookup y.1=some .local)
  (J:eW X.env.scope scope=true)
  (hs:∀x,foldedSetIterable f X.env x=pure x) (hN:X.N.Nodup) (L:X.N[W]? =some l) (O:Loc X.env.scope l) (hf:X.fn l=true\/X.env.scope.names.lookup l=some .local)
  (M:swapsWith (.ListComp j [⟨d,f,n,0⟩] scope pos) (some (.Name l g)) i.line X.env=pure true) :
  PS X (.Assign [.Name l g] (.ListComp j [⟨d,f,n,0⟩] scope pos) i) (Go (Gi X Z E scope d n j Y) (tH W)):=by
 intro r s σ H D0 I h;rw[exec_Assign_Name_used l g _ i M];refine MS (wpAny_standAt (MS ?_));refine MS (aj ?_ λ_ s9 h9=>MV (MV h9));refine xF hc hi D u z q J hs I h λC a' s2 s4 H2 H3 fp cl m I2 f2 below hCle I4 hn qn _=> ?_;have IX:=I2.call' I4.os I4.base I4.hok I4.bare λb hb=>⟨(f2 b hb).2.2.2.1,(f2 b hb).2.1,(f2 b hb).2.2.2.2.1,(f2 b hb).2.2.2.2.2⟩;refine wpAny_assign_Name (nM IX hN L O (v:=.ref a') rfl (λs5 I5 ⟨a,sb,R⟩=> ?_) hf);have T:C≠a:=by
  rcases R with rfl|R
  .exact(below _ I2.lt).symm
  .obtain⟨v,S⟩:=I2.cell _ _ R
   exact(below _ S.lt).symm
 refine⟨m,?_,λh' hs' => ?_⟩
 .obtain⟨ob,es,ep,ho,rr⟩:=hn
  exact⟨ob,es,ep,(sb.2 _ T).trans ho,rr⟩
 .refine⟨_,H3,I5.turned (λb o ne e=>(hs'.2 b ne).trans e) I4.free (below _ I2.lt).symm (.inr (M8 I2.sz hCle)) (λx c e=> ?_) (λp hp=> ?_),qn⟩
  .obtain⟨v,S⟩:=I2.cell x c e
   exact below _ S.lt
  .exact below _ (Mi (I2.pin p hp).1)
end
end L2
namespace IR
open PySem PySem.Spec PyProof.Rows L2
section
variable{X:Cx}{Hi:Hp}{τ:En}{cd:Nat->List PV->Option PV}{ct:Ct}
abbrev WS(X:Cx)(b:Stmt)(D:cE)(c:L2.St)(H:Hp):Prop:=∀(a:List (Addr×Obj))(s:Shared),Inv X a c H s->wpAny (model X.prog X.w) X.A (exec b X.env) (SP X a D) X.xe s
abbrev J4(X:Cx)(b:List Stmt)(D:cE)(c:L2.St)(H:Hp):Prop:=∀(a:List (Addr×Obj))(s:Shared),Inv X a c H s->wpAny (model X.prog X.w) X.A (execs b X.env) (SP X a D) X.xe s
theorem Ax:PS X a (λD σ H=>WS X a D σ H):=λpins s σ H D I h=>h pins s I
theorem eS:qK X a (λD σ H=>J4 X a D σ H):=λpins s σ H D I h=>h pins s I
theorem ws{t:TS}(h:PS X b t)(q:t D a H):WS X b D a H:=λpins s I=>h pins s a H D I q
theorem DL{t:TS}(h:qK X b t)(q:t D a H):J4 X b D a H:=λpins s I=>h pins s a H D I q
variable(X Hi)in
def wD(O:List Addr)(H:Hp)(c :En)(P:L2.St->Hp->Prop):Prop:=∀(a :L2.St)(b :Hp)(d :List Addr),al X.K Hi d c a b ->a.length=X.N.length->aD (aV H O) (aV b d)->P a b
variable(X Hi)in
def C3(c:Fl)(O:List Addr)(H:Hp)(D:cE):Prop:=match c with
 | .nx a =>wD X Hi O H a D.nx| .bk a =>wD X Hi O H a D.bk| .ct a =>wD X Hi O H a D.ct| .rt v=>∀u b,aD Hi b ->Rp X.K Hi true v b u->D.rt u b
variable(X Hi τ)in
def nG(b:Stmt)(c:Fl):Prop:=∀(O:List Addr)(a:L2.St)(H:Hp)(D:cE),al X.K Hi O τ a H->a.length=X.N.length->C3 X Hi c O H D->WS X b D a H
variable(X Hi τ)in
def zV(b:List Stmt)(c:Fl):Prop:=∀(O:List Addr)(a:L2.St)(H:Hp)(D:cE),al X.K Hi O τ a H->a.length=X.N.length->C3 X Hi c O H D->J4 X b D a H
theorem wD.from{P:L2.St->Hp->Prop}(h:wD X Hi O H a P)(s:aD (aV H O) (aV b c)):wD X Hi c b a P:=λσ2 H2 O2 R hl s2=>h σ2 H2 O2 R hl (s.trans s2)
set_option tactic.hygienic false
theorem C3.from(h:C3 X Hi b O H D)(s:aD (aV H O) (aV c d)):C3 X Hi b d c D:=by
 cases b with
 |nx a =>exact wD.from (show wD X Hi O H a D.nx from h) s|bk a =>exact wD.from (show wD X Hi O H a D.bk from h) s|ct a =>exact wD.from (show wD X Hi O H a D.ct from h) s|rt v=>exact h
set_option tactic.hygienic true in
theorem lU(C:bh cd X ct)(h:loc ct x=some i):X.N[i]? =some x/\L2.Loc X.env.scope x/\wy x=false/\GW ct.S x=true:=by
 unfold loc at h
 split at h
 .rename_i c
  rw[Mb]at c;refine⟨by rw[C.N];exact fm h,?_,by simpa using c.2,?_⟩
  .unfold L2.Loc
   rw[C.S]
   simpa using c.1
  .unfold GW
   have:=c.1;simp only[N0]at this ⊢;exact .inl this
 .cases h
theorem pf{cap:List Nat}(R:al X.K Hi O τ b H):∃a,al X.K Hi a (bj cap τ) b H/\aD (aV H O) (aV H a):=by obtain⟨a,c,h⟩:=R.freezes;exact⟨a,c,xM h⟩
set_option tactic.hygienic true in
theorem HD{o:Bool}(R:al X.K Hi O τ g H)(s:aD H a)(z:i<g.length)(q:af X.K Hi O H a r u)(h:jV o i r τ=some f) :
  ∃A,al X.K Hi A f (g.set i (some u)) a /\aD (aV H O) (aV a A):=by
 unfold jV at h
 split at h
 .rename_i C n
  cases h;obtain⟨p,D,rfl,d,l,m⟩:=q;have y:aD (aV (del a p) O) (aV a (p::O)):=λb o e=>by
   unfold aV del at e;unfold aV
   split at e;cases e
   .rename_i c
    split at e;cases e
    .rename_i j
     rwa[MY (by simp[j,c])]
  refine⟨p::O,R.setO z s d l (m.mono y),λb o e=> ?_⟩;unfold aV at e ⊢
  split at e;cases e
  .rename_i c
   have x:=aE e d;rw[MY (by simp[x,c])];exact s b o e
 .rename_i b C n
  cases h;obtain⟨p,D,o,rfl,d,l,I,m⟩:=q;have y:aD (aV (del a p) O) (aV a (p::O)):=λb o e=>by
   unfold aV del at e;unfold aV
   split at e;cases e
   .rename_i c
    split at e;cases e
    .rename_i j
     rwa[MY (by simp[j,c])]
  refine⟨p::O,R.setB rfl z s d l I (m.mono y),λb o e=> ?_⟩;unfold aV at e ⊢
  split at e;cases e
  .rename_i c
   rw[MY (by simp[aE e d,c])];exact s b o e
 .obtain⟨w,E,h⟩:=map_some h
  obtain⟨v,n⟩:=w;subst h;exact⟨O,(R.ext s).setF z (q.keep R s E),aO s⟩
theorem Hw(h:Bl e=false\/a.kindOf x≠some .local):swapsWith e (some (.Name x p)) l a=pure false:=by
 rcases h with h|h
 .cases e<;>first|rfl|cases h
 .have b:(a.kindOf x==some NameKind.local)=false:=by simpa using h
  cases e<;>first|rfl|(show(pure (_&&(a.kindOf x==some NameKind.local)&&_&&_):Sem Bool)=pure false;rw[b,Bool.and_false,Pt,Pt])
theorem Jb(C:bh cd X ct)(h:X.fn=λ_=>true){o:Bool}(hx:loc ct x=some i)(j:aS cd (am n ct e) (bj f τ)=some r)(Z:jV o i r (bj f τ)=some p) :
  nG X Hi τ (.Assign [.Name x Q] e pos) (.nx p):=by
 intro O l H D R S q;obtain⟨w,A,h3,h4⟩:=lU C hx;obtain⟨z,y,s1⟩:=pf R;have M:=(gO n).e X ct Hi (bj f τ) e r C j;have hi:i<l.length:=by rw[S];exact(Mh.mp w).1
 have J:X.N.Nodup:=by rw[C.N];exact C.nd
 have g:∀u v,aD H v ->af X.K Hi z H v r u->D.nx (l.set i (some u)) v :=λu v s ok=>by obtain⟨Y,R2,s2⟩:=HD y s hi ok Z;exact q _ _ Y R2 (by rwa[OE]) (s1.trans s2)
 by_cases L:Bl e=false\/X.env.kindOf x≠some .local
 .refine ws (b8 J w A aX (Hw L) (.inl (by rw[h]))) ?_
  exact M z l H _ y g
 .rw[Pd]at L
  obtain⟨c1,U⟩:=L;cases e with
  |ListComp E gs scope lp =>
   cases n with
   |zero=>simp[qb,eD]at j|succ n =>
    obtain⟨tg,m,I,N',a0,rfl,g1,g2,g3,g4,g5,W,g7⟩:=lcE (gO n) C j;obtain⟨b,T⟩:∃b,swapsWith (.ListComp E [⟨tg,m,I,0⟩] scope lp) (some (.Name x Q)) pos.line X.env=pure b:=⟨_,rfl⟩;cases b with
    |true=>exact ws (Ay C.calm HS g1 g2 g3 g4 g5 (pJ W) J w A (.inl (by rw[h])) T) (g7 z l H _ y g)|false=>exact ws (b8 J w A aX T (.inl (by rw[h]))) (M z l H _ y g)
  |SetComp a b c d=>exact aL (by cases n<;>exact j)|DictComp a b c d e=>exact aL (by cases n<;>exact j)|_=>exact absurd rfl c1
theorem HB(C:bh cd X ct)(c:aS cd (am n ct e) (bj a τ)=some r)(f:r.keep=some (v,true)):nG X Hi τ (.Return (some e) pos) (.rt v):=by intro O d H D R h q;obtain⟨g,b,i⟩:=pf R;refine ws (jW aX) ?_;exact(gO n).e X ct Hi _ e r C c g d H _ b λu H' s ok=>q u H' (R.same.trans s) ((ok.keep b s f).mono aQ)
theorem Ds:nG X Hi τ (.Return none pos) (.rt .non):=by intro O a H D R b q;exact ws Dw (q _ _ R.same (Rp.non.mpr rfl))
theorem Ik{t:Bool}(g:fB X Hi τ c t)(h:zV X Hi τ (if t=true then a else b) d):nG X Hi τ (.If c a b pos) d:=by
 intro O e H D R f q;refine ws (rV kF eS eS) ?_;refine g O e H _ R λH1 s1=> ?_;cases t with
 |true=>exact sd ((show zV X Hi τ a d from h) O e H1 _ (R.ext s1) f (q.from (aO s1)))|false=>exact sf ((show zV X Hi τ b d from h) O e H1 _ (R.ext s1) f (q.from (aO s1)))
theorem xE(C:bh cd X ct)(o:X.fn=λ_=>true):∀{d:List Expr}{l:List Nat},locs ct d=some l->∃t,MB X d t/\(assignEach d X.env).length=l.length/\(assignEach d X.env).findIdx? (·.1)=none /\ ∀(O:List Addr)(s c :En)(f:L2.St)(H:Hp)(n:Bool)(g:List PV)(v:List V)(Q:L2.St->Hp->Prop),al X.K Hi O s f H->f.length=X.N.length->aG X.K Hi n g (aV H O) v->du n l g s=some c -> (∀j,al X.K Hi O c j H->j.length=X.N.length->Q j H)->t v f H Q
 |[],l,h=>by
  cases h;refine⟨_,iB,rfl,rfl,λO s c f H n g v Q R hl r e q=> ?_⟩;cases g with
  |nil =>obtain rfl:=r;cases e;exact⟨rfl,q f R hl⟩
  |cons x g=>cases e
 | .Name x p::d,l,h=>by
  have h:(loc ct x).bind (λi=>(locs ct d).map (i::·))=some l:=h;obtain⟨i,M,h⟩:=bind_some h;obtain⟨U,I,h⟩:=map_some h;subst h;obtain⟨z,E,T,S⟩:=lU C M;obtain⟨t,L,m,J,k⟩:=xE C o I;refine⟨_,b9 (av (by rw[C.N];exact C.nd) z E (.inl (by rw[o]))) L rfl,?_,?_,λO s c f H n g v Q R hl r e q=> ?_⟩
  .show(assignEach d X.env).length+1=_
   rw[m];rfl
  .show List.findIdx? (·.1) ((false,assign (.Name x p) X.env)::assignEach d X.env)=none
   rw[List.findIdx?_cons,J];rfl
  .cases g with
   |nil=>cases e|cons y D =>
    obtain⟨u,A,rfl,a,b⟩:=r;have w :i<f.length:=by rw[hl];exact(Mh.mp z).1
    exact⟨u,A,rfl,k O _ c _ H n D A Q (R.setF w a.up) (by rwa[OE]) b e q⟩
 | .BoolOp .. ::_,_,h=>by cases h| .NamedExpr .. ::_,_,h=>by cases h| .BinOp .. ::_,_,h=>by cases h| .UnaryOp .. ::_,_,h=>by cases h| .Lambda .. ::_,_,h=>by cases h| .IfExp .. ::_,_,h=>by cases h| .Dict .. ::_,_,h=>by cases h| .Set .. ::_,_,h=>by cases h| .ListComp .. ::_,_,h=>by cases h| .SetComp .. ::_,_,h=>by cases h| .DictComp .. ::_,_,h=>by cases h| .GeneratorExp .. ::_,_,h=>by cases h| .Await .. ::_,_,h=>by cases h| .Yield .. ::_,_,h=>by cases h| .YieldFrom .. ::_,_,h=>by cases h| .Compare .. ::_,_,h=>by cases h| .Call .. ::_,_,h=>by cases h| .FormattedValue .. ::_,_,h=>by cases h| .JoinedStr .. ::_,_,h=>by cases h| .Constant .. ::_,_,h=>by cases h| .Attribute .. ::_,_,h=>by cases h| .Subscript .. ::_,_,h=>by cases h| .Starred .. ::_,_,h=>by cases h| .List .. ::_,_,h=>by cases h| .Tuple .. ::_,_,h=>by cases h| .Slice .. ::_,_,h=>by cases h
theorem KQ(C:bh cd X ct)(hfn:X.fn=λ_=>true)(h:AL ct tg=some (is,one)):(one=false->∃ts k p,tg=.Tuple ts k p)/\∃g,PG X tg g /\ ∀(O:List Addr)(τ τ' :En)(σ:L2.St)(H:Hp)(n:Bool)(x:PV)(u:V)(Q:L2.St->Hp->Prop),al X.K Hi O τ σ H->σ.length=X.N.length->Rp X.K Hi n x (aV H O) u->oy is one n x τ=some τ' -> (∀σ',al X.K Hi O τ' σ' H->σ'.length=X.N.length->Q σ' H)->g u σ H Q:=by
 cases tg with
 |Name x p =>
  obtain⟨i,hi,h⟩:=map_some (show(loc ct x).map (λi=>([i],true))=some (is,one)from h);cases h;obtain⟨h1,h2,h3,h4⟩:=lU C hi;refine⟨λz=>(by cases z),_,av (by rw[C.N];exact C.nd) h1 h2 (.inl (by rw[hfn])),λO τ τ' σ H n x u Q R hl r e q=> ?_⟩;cases e;have hi' :i<σ.length:=by rw[hl];exact(Mh.mp h1).1
  exact q _ (R.setF hi' r.up) (by rwa[OE])
 |Tuple es k p =>
  obtain⟨js,hj,h⟩:=map_some (show(locs ct es).map (λis=>(is,false))=some (is,one)from h);cases h;obtain⟨t,pt,hlen,hf,kk⟩:=xE C hfn hj;refine⟨λ_=>⟨_,_,_,rfl⟩,_,lD C.calm pt hlen hf,λO τ τ' σ H n x u Q R hl r e q=> ?_⟩;cases x with
  |tup xs =>
   obtain⟨a,us,rfl,l,r2⟩:=Rp.tup.mp r;have hz:∀{is:List Nat}{xs:List PV}{τ τ' :En},du n is xs τ=some τ' ->xs.length=is.length:=by
    intro is
    induction is with
    |nil=>intro xs τ τ' e;cases xs with
     |nil=>rfl|cons _ _=>cases e
    |cons i is ih=>intro xs τ τ' e;cases xs with
     |nil=>cases e|cons x xs=>rw[Mq,Mq,ih (show du n is xs _=some τ' from e)]
   exact⟨a,us,rfl,(aQ).tup l,by rw[<- r2.len];exact hz e,kk O τ τ' σ H n xs us Q R hl r2 e q⟩
  |_=>cases e
 |_=>cases h
theorem Iz(C:bh cd X ct)(hfn:X.fn=λ_=>true){body:List Stmt}{k:Bool}{fl:Fl}(ht:AL ct tg=some (is,one))
  (hi:qJ cd (AM n ct (!one) it) (bj cap τ)=some (xs,k,false)) (hb:∀τ fl,bd τ=some fl->zV X Hi τ body fl) (h:ln (oy is one k) bd xs (bj cap τ)=some fl):nG X Hi τ (.For tg it body [] pos) fl:=by
 intro O σ H D R hl q;obtain⟨O1,R1,s1⟩:=pf (cap:=cap) R;obtain⟨htp,g,pg,kg⟩:=KQ (Hi:=Hi) C hfn ht;obtain⟨ge,hset⟩:=(gO n).t X ct Hi (bj cap τ) (!one) it tg xs k false C (λz=>htp (by simpa using z)) hi;refine ws (fS C.xe C.calm HS pg eS (pJ hset)) ?_;refine ge O1 σ H _ R1 λJ H1 sJ En=> ?_;rw[MY MZ]at En;have s2:aD (aV H O) (aV H1 O1):=s1.trans (aO sJ);refine⟨λi m σ' G=>m=xs.length-i/\i<=xs.length/\∃(P:List Addr)(υ:IR.En),al X.K Hi P υ σ' G/\σ'.length=X.N.length/\aD (aV H1 O1) (aV G P)/\ln (oy is one k) bd (xs.drop i) υ=some fl,⟨xs.length,by simp,M6 _,O1,_,R1.ext sJ,hl,aD.refl _,h⟩,?_⟩;rintro i m σ' G ⟨rfl,hi',P,υ,RP,hlP,sP,hrun⟩;have dW:GM (aV H1 O1) G P:=⟨RP.lsts,sP⟩
 by_cases hlt:i<xs.length
 .refine .inr ⟨En.go G P i dW hlt,λσ2 G2=>∃m',m' <xs.length-i/\(m' =xs.length-(i+1)/\i+1<=xs.length/\∃(P:List Addr)(υ:IR.En),al X.K Hi P υ σ2 G2/\σ2.length=X.N.length/\aD (aV H1 O1) (aV G2 P)/\ln (oy is one k) bd (xs.drop (i+1)) υ=some fl),λσ2 G2 h=>h,λu G' y=> ?_⟩
  obtain⟨sG,x,hx,rx⟩:=En.yld G P i u G' dW hlt y;have hd:xs.drop i=x::xs.drop (i+1):=by rw[Od hlt];rw[Mk hlt]at hx;rw[Mx hx]
  rw[hd]at hrun;unfold ln at hrun;obtain⟨υ1,h1,hrun⟩:=bind_some hrun;obtain⟨f,hf,hrun⟩:=bind_some hrun;refine kg P υ υ1 σ' G' k x u _ (RP.ext sG) hlP rx h1 λσ1 R2 hl1=> ?_;have s3:=sP.trans (aO sG);refine hb υ1 f hf P σ1 G' _ R2 hl1 ?_;cases f with
  |nx υ2=>exact λσ3 G3 P3 R3 hl3 s4=>⟨_,by omega,rfl,hlt,P3,υ2,R3,hl3,s3.trans s4,hrun⟩|ct υ2=>exact λσ3 G3 P3 R3 hl3 s4=>⟨_,by omega,rfl,hlt,P3,υ2,R3,hl3,s3.trans s4,hrun⟩|bk υ2 =>have hrun:=hrun;cases hrun;exact λσ3 G3 P3 R3 hl3 s4=>q σ3 G3 P3 R3 hl3 (s2.trans (s3.trans s4))
  |rt v =>cases hrun;exact q
 .have e:i=xs.length:=by omega
  subst e;rw[List.drop_length]at hrun;cases hrun;exact .inl ⟨En.stop G P dW,q σ' G P RP hlP (s2.trans sP)⟩
theorem zt(C:bh cd X ct){body:List Stmt}{o:En->Option Bool}(A:∀j b,o j=some b->fB X Hi j c b)(z:∀j g,n j=some g->zV X Hi j body g)(h:C9 o n x j=some g) :
  nG X Hi j (.While c body [] pos) g:=by
 intro O I H D R y q;refine ws (rS C.xe kF eS) ?_;refine⟨λm d G=>∃(P:List Addr)(i:IR.En),al X.K Hi P i d G/\d.length=X.N.length/\aD (aV H O) (aV G P)/\C9 o n m i=some g,⟨x,O,j,R,y,aD.refl _,h⟩,?_⟩;rintro m d G ⟨P,i,r,l,u,a⟩;cases m with
 |zero=>cases a|succ m =>
  obtain⟨b,s,a⟩:=bind_some a;refine A i b s P d G _ r λG1 s1=> ?_;cases b with
  |false =>cases a;exact q d G1 P (r.ext s1) l (u.trans (aO s1))
  |true =>
   obtain⟨f,E,a⟩:=bind_some a;refine⟨λσ2 G2=>∃w,w <m+1/\∃(P:List Addr)(i:IR.En),al X.K Hi P i σ2 G2/\σ2.length=X.N.length/\aD (aV H O) (aV G2 P)/\C9 o n w i=some g,λσ2 G2 h=>h,?_⟩;have p:=u.trans (aO s1);refine z i f E P d G1 _ (r.ext s1) l ?_;cases f with
   |nx e=>exact λσ3 G3 P3 R3 hl3 s4=>⟨m,by omega,P3,e,R3,hl3,p.trans s4,a⟩|ct e=>exact λσ3 G3 P3 R3 hl3 s4=>⟨m,by omega,P3,e,R3,hl3,p.trans s4,a⟩|bk e =>have a:=a;cases a;exact λσ3 G3 P3 R3 hl3 s4=>q σ3 G3 P3 R3 hl3 (p.trans s4)
   |rt v =>cases a;exact q
set_option tactic.hygienic true in
theorem DS{P:L2.St->Hp->Prop}(R:al X.K Hi O τ a H)(s:a.length=X.N.length)(e:τ[i]? =some (.own f n))(g:a[i]? =some (some (.ref l)))(r:aG X.K Hi m d (aV H O) h)
  (q:wD X Hi O H (τ.set i (.own d m)) P):P a (L2.upd H l (.lst h)):=by
 refine q a _ O (R.upd e g r) s λb o z=> ?_;obtain⟨x,y,p,w,_⟩:=R.owns i f n e;rw[g]at p;cases p;unfold aV at z ⊢
 split at z;cases z
 .rename_i j
  have u:b≠l:=λc=>j (c▸w);rwa[MY j,aA u]
theorem Jd(C:bh cd X ct){m:Str}{o:Pos}{k:Bool}(hx:loc ct x=some i)(M:m="append")(c:(p.endLine==o.line)=true)(h:isStar a=false)
  (I:aS cd (am n ct a) (bj b τ)=some r) (hk:r.keep=some (v,k)) (E:(bj b τ)[i]? =some (.own f j)) (hz:f.length<LN) :
  nG X Hi τ (.Expr (.Call (.Attribute (.Name x U) m p) [a] [] o) pos) (.nx ((bj b τ).set i (.own (f++[v]) (j&&k)))):=by
 intro O J H D R W q;subst M;obtain⟨L,h2,h3,Z⟩:=lU C hx;obtain⟨O1,g,Y⟩:=pf R;obtain⟨Q,T,o3⟩:=dA h3;refine ws (hU (F9 PySem.F.plainAttrs_list PySem.F.slot_list_append PySem.F.type_list_append nj (uv L (zx C.S Z) Q T) (aF aX aK (aR h)) rfl (by rw[aR h];rfl) c (aR h) rfl) rfl) ?_;obtain⟨l,w,z,g2,y,A⟩:=g.owns i f j E;refine⟨_,z,.inl ⟨rfl,w,bH.of y⟩,?_⟩;refine(gO n).e X ct Hi _ a r C I O1 J H _ g λu H' s ok=> ?_;refine⟨l,w,u,rfl,rfl,s _ _ y,by rwa[eN,<-A.len],?_⟩;exact DS (g.ext s) W E z (IG (A.mono (aO s)) (.cons (ok.keep g s hk) .nil)) (wD.from q (Y.trans (aO s)))
theorem Cs(C:bh cd X ct)(b:X.fn=λ_=>true){k:Bool}(E:loc ct x=some i)(a:PIp X h (ipI g))(l:aS cd (am n ct e) τ=some r)(o:τ[i]? =some (.frz (.int v) k))(z:r.val=.int w) :
  nG X Hi τ (.AugAssign (.Name x y) h e pos) (.nx (τ.set i (.frz (.int (g v w)) true))):=by
 intro O c H D R f q;obtain⟨d,j,L,J⟩:=lU C E;have I:i<c.length:=by rw[f];exact(Mh.mp d).1
 have p:X.N.Nodup:=by rw[C.N];exact C.nd
 obtain⟨u,A,m⟩:=R.frz i _ _ o;cases Rp.int.mp m;refine ws (HI p d j aX a (.inl (by rw[b]))) ⟨_,A,?_⟩;refine(gO n).e X ct Hi _ e r C l O c H _ R λu' H' s ok=>⟨v,w,rfl,ok.int R s z,?_⟩;exact q _ _ O ((R.ext s).setF I (Rp.int.mpr rfl)) (by rwa[OE]) (aO s)
end
section
variable{cd:Nat->List PV->Option PV}{fu:Nat}
structure MR(cd:Nat->List PV->Option PV)(fu:Nat)(n:Nat):Prop where
 s:∀(X:Cx)(ct:Ct)(Hi:Hp)(τ:En)(st:Stmt)(fl:Fl),bh cd X ct->(X.fn=fun _=>true)->fJ cd fu (qu n ct st) τ=some fl->nG X Hi τ st fl
 ss:∀(X:Cx)(ct:Ct)(Hi:Hp)(τ:En)(st:List Stmt)(fl:Fl),bh cd X ct->(X.fn=fun _=>true)->ar cd fu (fK n ct st) τ=some fl->zV X Hi τ st fl
set_option tactic.hygienic false
theorem bB(h:fJ cd fu .never a=some r){P:Prop}:P:=by simp[i9]at h
set_option tactic.hygienic true in
theorem stE(IH:MR cd fu n){ct:Ct}{st:Stmt}{fl:Fl}(C:bh cd X ct)(hfn:X.fn=λ_=>true)(h:fJ cd fu (qu (n+1) ct st) τ=some fl):nG X Hi τ st fl:=by
 cases st with
 |Return v pos =>
  simp only[yB]at h;cases v with
  |none =>cases h;exact Ds
  |some e =>
   obtain⟨r,hr,h⟩:=bind_some h;obtain⟨w,hk,h⟩:=bind_some h;obtain⟨v,m⟩:=w;dsimp only at h
   split at h
   .rename_i hm
    cases h;subst hm;exact HB C hr hk
   .cases h
 |Assign ts e pos =>
  simp only[yL,yB,yK,yE,yF,yA,yD,yI,yH,yG,yC,yJ]at h
  split at h
  .rename_i x xp
   cases hx:loc ct x with
   |none=>rw[hx]at h;exact bB h|some i =>rw[hx]at h;obtain⟨r,hr,h⟩:=bind_some h;obtain⟨τ',hp',h⟩:=map_some h;subst h;exact Jb C hfn hx hr hp'
  .exact bB h
 |If c a b pos =>
  obtain⟨t,ht,h⟩:=bind_some h;refine Ik ((gO n).c X ct Hi τ c t C ht) ?_;cases t with
  |true=>exact IH.ss X ct Hi τ a fl C hfn h|false=>exact IH.ss X ct Hi τ b fl C hfn h
 |For tg it body els pos =>
  simp only[yL,yB,yK,yE,yF,yA,yD,yI,yH,yG,yC,yJ]at h;cases els with
  |cons _ _=>exact bB h|nil =>
   cases ht:AL ct tg with
   |none=>rw[ht]at h;exact bB h|some w =>
    obtain⟨is,one⟩:=w;rw[ht]at h;obtain⟨w,hw,h⟩:=bind_some h;obtain⟨xs,k,b⟩:=w;cases b with
    |true=>cases h|false=>exact Iz C hfn ht hw (λτ fl h=>IH.ss X ct Hi τ body fl C hfn h) h
 |While c body els pos =>
  simp only[yL,yB,yK,yE,yF,yA,yD,yI,yH,yG,yC,yJ]at h;cases els with
  |cons _ _=>exact bB h|nil =>simp only[iz]at h;exact zt C (λτ b h=>(gO n).c X ct Hi τ c b C h) (λτ fl h=>IH.ss X ct Hi τ body fl C hfn h) h
 |Pass pos =>cases h;exact λO σ H D R hl q=>ws Dx (q σ H O R hl (aD.refl _))
 |Break pos =>cases h;exact λO σ H D R hl q=>ws Az (q σ H O R hl (aD.refl _))
 |Continue pos =>cases h;exact λO σ H D R hl q=>ws rW (q σ H O R hl (aD.refl _))
 |Expr e pos =>
  simp only[yL,yB,yK,yE,yF,yA,yD,yI,yH,yG,yC,yJ]at h
  split at h
  .rename_i x xp m ap es cp
   split at h
   .rename_i hline
    cases hx:loc ct x with
    |none=>rw[hx]at h;exact bB h|some i =>
     rw[hx]at h;dsimp only at h
     split at h
     .rename_i a
      split at h;exact bB h
      .rename_i hs
       split at h
       .rename_i hm
        simp only[jI]at h;obtain⟨r,hr,h⟩:=bind_some h;obtain⟨⟨v,k⟩,hk,h⟩:=bind_some h
        split at h
        .rename_i xs j ho
         split at h
         .rename_i hz
          cases h;exact Jd C hx (Mz hm) hline (OB.mpr hs) hr hk ho hz
         .cases h
        .cases h
       .exact bB h
     .exact bB h
   .exact bB h
  .exact bB h
 |AugAssign t op e pos =>
  simp only[yL,yB,yK,yE,yF,yA,yD,yI,yH,yG,yC,yJ]at h
  split at h
  .rename_i x xp
   cases hx:loc ct x with
   |none=>rw[hx]at h;exact bB h|some i =>
    rw[hx]at h;obtain⟨r,hr,h⟩:=bind_some h
    split at h
    .rename_i hv hw
     cases h;exact Cs C hfn hx Ii hr (by assumption) (by assumption)
    .rename_i hv hw
     cases h;exact Cs C hfn hx Ih hr (by assumption) (by assumption)
    .cases h
  .exact bB h
 |Raise e c pos =>
  simp only[yL,yB,yK,yE,yF,yA,yD,yI,yH,yG,yC,yJ]at h
  split at h
  .split at h
   .simp[i7]at h
   .exact bB h
  .exact bB h
 |_=>(try simp only[yL,yB,yK,yE,yF,yA,yD,yI,yH,yG,yC,yJ]at h);exact bB h
theorem Jf:∀n:Nat,MR cd fu n
 |0=>by
  refine⟨λX ct Hi τ b fl C hfn h=> ?_,λX ct Hi τ b fl C hfn h=> ?_⟩
  .simp[yL,i9]at h
  .simp[z2i,zm,zn,i9]at h
 |n+1=>by
  have d:=Jf n;refine⟨λX ct Hi τ b fl C hfn h=>stE d C hfn h,λX ct Hi τ b fl C hfn h=> ?_⟩;cases b with
  |nil =>cases h;exact λO c H D R e q=>DL pA (q c H O R e (aD.refl _))
  |cons b j =>
   simp only[z2j]at h;obtain⟨f,g,h⟩:=bind_some h;intro O c H D R e q;refine DL (aZ Ax eS) ?_;refine (d.s X ct Hi τ b f C hfn g) O c H _ R e ?_;cases f with
   |nx a=>exact λσ1 H1 O1 R1 hl1 s1=>d.ss X ct Hi a j fl C hfn h O1 σ1 H1 D R1 hl1 (q.from s1)|bk a =>have h:=h;cases h;exact q
   |ct a =>cases h;exact q
   |rt v =>cases h;exact q
end
structure zj(K:W.Frag)(mg:Str->Option Value)(P:Nat->Option FD)(F:List (Str×Nat))(G:List (Str×PV))(B:List Str)(x:Str)(f:Nat)(a:Addr)(fd:FuncData)(ps:List Str):Prop where
 ex:(mg x=some (.ref a)/\W.keepIn K (.ref a)=true/\Binds K fd ps []/\∀(p:Program)(w:World)(base:Heap)(k:Nat),(∀j,j<=k->∀y g,F.lookup y=some g->∃b gd qs,mg y=some (.ref b)/\W.keepIn K (.ref b)=true/\Binds K gd qs []/\bQ p w K mg base iw j b gd qs (uO K (aC P j g)))->bQ p w K mg base iw (k+1) a fd ps (uO K (aC P (k+1) f)))\/∃st N M n body,uT K mg x st ps a fd/\az N ps (aJ st)/\P f=some ⟨N.length,ps.length,body⟩/\fK n ⟨N,(aJ st).names,F,G,B,M⟩ (aa st)=body
set_option tactic.hygienic false
theorem zj.def{K:W.Frag}{P:Nat->Option FD}{F:List (Str×Nat)}{G:List (Str×PV)}{B:List Str}(d:zj K b P F G B x f a e c):b x=some (.ref a)/\W.keepIn K (.ref a)=true/\Binds K e c []:=by
 rcases d.ex with⟨h,g,i,_⟩|⟨j,N,M,n,body,D,_⟩
 .exact⟨h,g,i⟩
 .exact⟨D.nm,D.fn.kp,D.bd⟩
theorem oG{K:W.Frag}(C:d.nn=N.length)(r:aG K H false a H m):al K H [] (entry d a) (start N m) H:=by
 have q:=r.len;have h:∀i (t:TV),(entry d a)[i]? =some t->t=.un\/∃v u,t=.frz v (imm v)/\(start N m)[i]? =some (some u)/\Rp K H false v H u:=λi t e=>by
  unfold entry at e
  by_cases s:i<a.length
  .rw[Oc (by simpa using s),Mp]at e
   have o:a[i]? =some a[i]:=by simp
   rw[o]at e;cases e;obtain⟨u,A,w⟩:=r.at o;refine .inr ⟨_,u,rfl,?_,w⟩;unfold L2.start;rw[Oc (by rw[MT];omega),Mp,A];rfl
  .rw[O5 (by simpa using s),List.getElem?_replicate]at e
   split at e
   .cases e
    exact .inl rfl
   .cases e
 refine⟨aD.refl _,λl q=>(by cases q),λi v n e=> ?_,λi t b xs n e ht=> ?_,λi j t t' x y l e1 ht e2 ht' f c=> ?_⟩
 .rcases h i _ e with z|⟨p,u,z,f,c⟩
  .cases z
  .cases z
   refine⟨u,f,?_⟩;cases g:imm v with
   |true=>exact Rp.imm g ⟨λ_ _ e=>e,λ_ _ _ e=>e⟩ c|false=>exact c
 .rcases h i _ e with z|⟨p,u,z,f,c⟩<;>(subst z;cases ht)
 .rcases h i _ e1 with z|⟨p,u,z,f,c⟩<;>(subst z;cases ht)
set_option tactic.hygienic true in
theorem JC{K:W.Frag}{P:Nat->Option FD}{F:List (Str×Nat)}{G:List (Str×PV)}{B:List Str}
  (hG:∀x v,G.lookup x=some v->∃u w,I x=some u/\RelV w u/\∀Hi n H,Rp K Hi n v H w) (hB:∀x,B.contains x=true->I x=none) (hF:∀x f,F.lookup x=some f->∃a o l,zj K I P F G B x f a o l) :
  ∀(k:Nat)(x:Str)(f:Nat)(a:Addr)(o:FuncData)(l:List Str),zj K I P F G B x f a o l->bQ p w K I i iw k a o l (uO K (aC P k f)):=by
 have S:∀k j,j<=k->∀x f a o l,zj K I P F G B x f a o l->bQ p w K I i iw j a o l (uO K (aC P j f)):=by
  intro k
  induction k with
  |zero =>intro j Z;have e:=Nat.le_zero.mp Z;subst e;intro x f a o l _;exact⟨λvs H Q E h=>(by obtain⟨_,_,_,z,_⟩:=h;cases z),λA outer s H args us vs Q E _ _ _ _ h=>(by obtain⟨_,_,_,z,_⟩:=h;cases z)⟩
  |succ k ih =>
  intro j Z
  by_cases a0:j<=k;exact ih j a0
  have e:j=k+1:=by omega
  subst e;intro x f a o l d
  rcases d.ex with⟨_,_,_,R⟩|⟨st,N,M,n,body,D,S,hP,J⟩
  .exact R p w i k λj Z y g hy=>by obtain⟨b,gd,qs,dy⟩:=hF y g hy;obtain⟨z1,z2,z3⟩:=dy.def;exact⟨b,gd,qs,z1,z2,z3,ih j Z y g b gd qs dy⟩
  have O:∀{c:List PV}{r:PV},aC P (k+1) f c=some r->c.length=l.length/\bo (ar (aC P k) 1000000 body (entry ⟨N.length,l.length,body⟩ c))=some r:=λ{c r} h=>by
   unfold aC at h;rw[hP]at h;dsimp only[Option.bind]at h
   split at h
   .rename_i hl
    exact⟨hl,h⟩
   .cases h
  refine D.fn.ok S (λvs H Q E h=> ?_) (λcdv A outer s H vs Q E hr h=> ?_)
  .obtain⟨c,r,X,m,_⟩:=h
   rw[<- X.len];exact(O m).1
  .obtain⟨c,r,X,m,q⟩:=h
   obtain⟨hl,m⟩:=O m;have a1:l.length<=N.length:=by have:=NG List.length S.pre;rw[OU]at this;omega
   cases Y:ar (aC P k) 1000000 body (entry ⟨N.length,l.length,body⟩ c)with
   |none=>rw[Y]at m;cases m|some fl =>
    rw[Y]at m
    have C:bh (aC P k) (iS iw p w K I i N x (aJ st) a cdv A outer s H E).nox ⟨N,(aJ st).names,F,G,B,M⟩ :=
     ⟨rfl,S.nd,rfl,S.kind,rfl,hG,hB,λy g hy=>by obtain⟨a',T,L,d'⟩:=hF y g hy;obtain⟨z1,z2,z3⟩:=d'.def;exact⟨k,a',T,L,ih k (Mc k) y g a' T L d',hr,z1,z2,z3⟩,OA,hr.units⟩
    rw[<- J]at Y;refine⟨_,eS,((Jf n).ss _ _ H _ (aa st) fl C rfl Y) [] (start N vs) H _ (oG rfl X) ?_ ?_⟩
    .show(start N vs).length=N.length
     unfold L2.start;rw[Mj,MT,List.length_replicate];have:=X.len;omega
    .cases fl with
     |nx U =>cases m;exact λσ' H' O' R' _ _=>q _ _ R'.same (Rp.non.mpr rfl)
     |rt v =>cases m;exact q
     |bk U =>cases m|ct U =>cases m
 exact λk=>S k k (Mc k)
theorem IQ{K:W.Frag}{P:Nat->Option FD}{k:Nat}(F:bQ p w K e b iw k a i g (uO K (aC P k f)))
  (h:∀c:List Int,c.length<=63->aC P k f [.lst (c.map PV.int)]=some (.bl true)):bQ p w K e b iw k a i g (wQ K) :=
 F.imp λvs H Q E z=>by obtain⟨l,c,rfl,j,d,q⟩:=z;refine⟨[.lst (c.map PV.int)],.bl true,.cons (Rp.lst.mpr ⟨l,_,rfl,(λz=>by cases z),j,aG.ints.mpr rfl⟩) .nil,h c d,λu H' s r=> ?_⟩;rw[Rp.bl.mp r];exact q H'
theorem cc{P:Nat->Option FD}{f n m:Nat}(h:P f=some ⟨n,m,.cons .never .nil⟩):∀(k:Nat)(a:List PV),aC P k f a=none
 |0,_=>rfl|k+1,a=>by
  unfold aC;rw[h,M5]
  split;simp[zm,zn,i9,bo];rfl
theorem fi{K:W.Frag}{P:Nat->Option FD}{A:Program->World->Heap->Nat->Prop}(h:∀(k:Nat) (c:List PV),aC P k f c=none)(p:Program)(w:World)(b:Heap)(k:Nat)(_:A p w b k):bQ p w K d b iw (k+1) a g e (uO K (aC P (k+1) f)) := ⟨λvs H Q E z=>(by obtain⟨_,_,_,z,_⟩:=z;rw[h]at z;cases z),λA outer s H args us c Q E _ _ _ _ z=>(by obtain⟨_,_,_,z,_⟩:=z;rw[h]at z;cases z)⟩
section
variable{K:W.Frag}{mg:Str->Option Value}{P:Nat->Option FD}{F0:List (Str×Nat)}{G0:List (Str×PV)}{B0:List Str}
theorem fnil:∀(x:Str)(f:Nat),([]:List (Str×Nat)).lookup x=some f->∃a c b,zj K mg P F0 G0 B0 x f a c b:=λx f h=>by cases h
set_option tactic.hygienic true in
theorem ai(h:∃a d b,zj K mg P F0 G0 B0 i g a d b)(j:∀(x:Str) (f:Nat),r.lookup x=some f->∃a d b,zj K mg P F0 G0 B0 x f a d b) :
  ∀(x:Str)(f:Nat),((i,g)::r).lookup x=some f->∃a d b,zj K mg P F0 G0 B0 x f a d b:=λx f e=>by
 rw[NS]at e
 split at e
 .rename_i c
  cases e;rwa[Mz c]
 .exact j x f e
theorem gnil:∀(x:Str)(v:PV),([]:List (Str×PV)).lookup x=some v->∃u w,mg x=some u/\RelV w u/\∀a n H,Rp K a n v H w:=λx f h=>by cases h
set_option tactic.hygienic true in
theorem LY(h:∃u w,mg d=some u/\RelV w u/\∀a n H,Rp K a n b H w)(g:∀(x:Str) (v:PV),r.lookup x=some v->∃u w,mg x=some u/\RelV w u/\∀a n H,Rp K a n v H w) :
  ∀(x:Str)(v:PV),((d,b)::r).lookup x=some v->∃u w,mg x=some u/\RelV w u/\∀a n H,Rp K a n v H w:=λx f e=>by
 rw[NS]at e
 split at e
 .rename_i c
  cases e;rwa[Mz c]
 .exact g x f e
theorem bnil:∀(x:Str),([]:List Str).contains x=true->mg x=none:=λx h=>by simp at h
theorem cQ(h:mg a=none)(b:∀(x:Str),r.contains x=true->mg x=none):∀(x:Str),(a::r).contains x=true->mg x=none:=λx e=>by
 rw[Ot,N0]at e
 rcases e with e|e
 .rw[Mz e]
  exact h
 .exact b x e
end
theorem IM{d:Type}{c:List d}(h:c.length=1):∃a,c=[a]:=by
 cases c with
 |nil=>cases h|cons a c=>cases c with
  |nil=>exact⟨a,rfl⟩|cons b c=>cases h
theorem IL{d:Type}{c:List d}(h:c.length=2):∃a b,c=[a,b]:=by
 cases c with
 |nil=>cases h|cons a c=>obtain⟨b,rfl⟩:=IM (Nat.succ.inj h);exact⟨a,b,rfl⟩
theorem BU{e:Type}{d:List e}(h:d.length=3):∃a b c,d=[a,b,c]:=by
 cases d with
 |nil=>cases h|cons a d=>obtain⟨b,c,rfl⟩:=IL (Nat.succ.inj h);exact⟨a,b,c,rfl⟩
theorem len4{f:Type}{e:List f}(h:e.length=4):∃a b c d,e=[a,b,c,d]:=by
 cases e with
 |nil=>cases h|cons a e=>obtain⟨b,c,d,rfl⟩:=BU (Nat.succ.inj h);exact⟨a,b,c,d,rfl⟩
def cB:Nat->uK->uK
 |0,s=>s|n+1,.cons _ r=>cB n r|_+1,.nil=>.nil
theorem tL{set:PV->En->Option En}{body:En->Option Fl}(I:Nat->En->Prop)(R:Fl->Prop):∀(xs ys:List PV)(τ:En),I xs.length τ -> (∀(i:Nat)(x:PV)(τ:En),(xs++ys)[i]? =some x->xs.length<=i->I i τ->∃τ1 f,set x τ=some τ1/\body τ1=some f/\(match f with| .nx τ2=>I (i+1) τ2| .ct τ2=>I (i+1) τ2| .bk τ2=>R (.nx τ2)| .rt v=>R (.rt v))) -> (∀τ,I (xs++ys).length τ->R (.nx τ))->∃fl,ln set body ys τ=some fl/\R fl
 |xs,[],τ,h0,hs,he=>⟨.nx τ,rfl,he τ (by rw[NP];exact h0)⟩|xs,y::ys,τ,h0,hs,he=>by
  obtain⟨τ1,f,h1,h2,h3⟩:=hs xs.length y τ (by simp) (Mc _) h0;have e:xs++y::ys=(xs++[y])++ys:=by simp
  have ih:=λτ2 h=>tL I R (xs++[y]) ys τ2 (by rwa[Mj]) (λi x τ hx hi=>hs i x τ (by rwa[e]) (by rw[Mj]at hi;omega)) (by rwa[<- e]);unfold ln;rw[h1];dsimp only[Option.bind];rw[h2];cases f with
  |nx τ2=>exact ih τ2 h3|ct τ2=>exact ih τ2 h3|bk τ2=>exact⟨_,rfl,h3⟩|rt v=>exact⟨_,rfl,h3⟩
theorem Ev{set:PV->En->Option En}{body:En->Option Fl}{xs:List PV}{τ:En}(I:Nat->En->Prop)(R:Fl->Prop)(e:I 0 τ)
  (d:∀(i:Nat)(x:PV)(τ:En),xs[i]? =some x->I i τ->∃b f,set x τ=some b/\body b=some f/\(match f with| .nx a=>I (i+1) a| .ct a=>I (i+1) a| .bk a=>R (.nx a)| .rt v=>R (.rt v)))
  (g:∀τ,I xs.length τ->R (.nx τ)):∃c,ln set body xs τ=some c/\R c :=
 tL I R [] xs τ e (λi x τ hx _ hI=>d i x τ hx hI) g
theorem fz{f:PV->Option (Option (PV×Bool))}{g:PV->PV}{n:Bool}:∀{a:List PV},(∀x∈a,f x=some (some (g x,true)))->bg f a=some (a.map g,true)
 |[],_=>rfl|x::a,h=>by unfold bg;rw[h x MX,fz (n:=n) λy hy=>h y (MW _ hy)];rfl
section
variable{v:PV}{n m:Bool}{xs ys:List PV}{i j:Int}{z y:Str}{a b:RV}{τ:En}{t:TV}{k:Nat}
theorem fk:(RV.frz v n).val=v:=rfl
theorem DQ:(RV.bor v).val=v:=rfl
theorem DO:(RV.own xs n).val=.lst xs:=rfl
theorem Bh:(RV.frz v n).keep=some (v,n):=rfl
theorem Bg:(RV.own xs n).keep=some (.lst xs,n):=rfl
theorem Ec:(RV.owd (.dK c) xs n).keep=some (.dK c xs,n):=rfl
theorem EZ:fD (.lst xs)=some xs.length:=rfl
theorem EX:fD (.tup xs)=some xs.length:=rfl
theorem len_str:fD (.str z)=if z.length<=LN then some z.length else none:=rfl
theorem Ez:bo (some (.rt v))=some v:=rfl
theorem Iw:lj (.frz v n::τ) 0=some (.frz v n):=rfl
theorem Iy:lj (.own xs n::τ) 0=some (.bor (.lst xs)):=rfl
theorem Ix:lj (t::τ) (k+1)=lj τ k:=rfl
theorem iN:bj [] τ=τ:=rfl
theorem oB:bj (k::c) τ=bj c (pi τ k):=rfl
theorem Et:pi (.own xs n::τ) 0=.frz (.lst xs) n::τ:=rfl
theorem xP:pi (.frz v n::τ) 0=.frz v n::τ:=rfl
theorem B1:pi (t::τ) (k+1)=t::pi τ k:=by
 unfold pi;rw[OM];cases τ[k]? with
 |none=>rfl|some t=>cases t<;>rfl
theorem FY:cT .Add (.frz (.int i) n) (.frz (.int j) m)=some (sc (.int (i+j))):=rfl
theorem FP:cT .Sub (.frz (.int i) n) (.frz (.int j) m)=some (sc (.int (i-j))):=rfl
theorem FS:cT .Mult (.frz (.int i) n) (.frz (.int j) m)=if(-(2^64)<i/\i<2^64)\/(-(2^64)<j/\j<2^64)then some (sc (.int (i*j)))else if i.natAbs<2^2000/\j.natAbs<2^2000 then some (sc (.int (i*j)))else none:=rfl
theorem FU:cT .FloorDiv (.frz (.int i) n) (.frz (.int j) m)=if 0<j/\j<2^200 then some (sc (.int (i/j)))else none:=rfl
theorem FT:cT .Mod (.frz (.int i) n) (.frz (.int j) m)=if 0<j then some (sc (.int (i%j)))else none:=rfl
theorem FQ:cT .LShift (.frz (.int i) n) (.frz (.int j) m)=if 0<=j/\j<=1000000/\i.natAbs<2^64 then some (sc (.int (i*2^j.toNat)))else none:=rfl
theorem FR:cT .Pow (.frz (.int i) n) (.frz (.int j) m)=if 0<=j/\j<=1000000/\i.natAbs<2^64 then some (sc (.int (i^j.toNat)))else none:=rfl
theorem FW:cT .Add (.frz (.str z) n) (.frz (.str y) m)=if z.length+y.length<=LN then some (sc (.str (z++y)))else none:=rfl
theorem JN:aq .Lt (.int i) (.int j)=some (decide (i<j)):=rfl
theorem JO:aq .LtE (.int i) (.int j)=some (decide (i<=j)):=rfl
theorem JP:aq .Gt (.int i) (.int j)=some (decide (j<i)):=rfl
theorem JQ:aq .GtE (.int i) (.int j)=some (decide (j<=i)):=rfl
theorem FJ:aq .Eq (.int i) (.int j)=some (decide (i=j)):=rfl
theorem FG:aq .Eq (.str z) (.str y)=some (decide (z=y)):=rfl
theorem FE:aq .NotEq (.int i) (.int j)=some (!decide (i=j)):=rfl
end
section
variable{cd:Nat->List PV->Option PV}{fu:Nat}{s:IS}{ss:uK}{τ τ1:En}{v:PV}
theorem kr(h:fJ cd fu s τ=some (.nx τ1)):ar cd fu (.cons s ss) τ=ar cd fu ss τ1:=by simp only[zn,h,M5,gF]
end
theorem bK:ar b a (.cons s d) c=(fJ b a s c).bind λf=>gF f (ar b a d):=by simp only[zn]
theorem eY:ar c b .nil a=some (.nx a):=by simp only[zm]
theorem run{P:Nat->Option FD}{k:Nat}(b:P f=some d)(c:a.length=d.np)(h:bo (ar (aC P k) 1000000 d.body (entry d a))=some r):aC P (k+1) f a=some r:=by show(P f).bind _=_;rw[b];show(if a.length=d.np then _ else _)=_;rwa[Ma c]
section
variable{a b:RV}{t:String}{n m:Bool}{xs ys:List PV}{i j:Int}{bl:Bool}
theorem ef{k:En->Option Fl}:gF (.nx c) k=k c:=rfl
theorem DW{k:En->Option Fl}:gF (.rt v) k=some (.rt v):=rfl
theorem AJ:nH (.bl bl)=some bl:=rfl
theorem Ci:j7 (.bl bl)=some bl:=rfl
theorem Bp:Eg (.int i)=some i:=rfl
theorem Di:ku (.frz (.str z) n)=some (signs z,true,false):=rfl
theorem Dk:ku (.frz (.lst xs) n)=some (xs,n,false):=rfl
theorem Dh:ku (.frz (.tup xs) n)=some (xs,n,false):=rfl
theorem Dj:ku (.own xs n)=some (xs,n,false):=rfl
theorem K2{k:Nat}:jV true k (.own xs n) c=some (c.set k (.own xs n)):=rfl
theorem HE{k:Nat}:jV false k (.own xs n) c=some (c.set k (.frz (.lst xs) n)):=rfl
theorem HF{k:Nat}{o:Bool}:jV o k (.frz v n) c=some (c.set k (.frz v n)):=by cases o<;>rfl
theorem Gd:oh (.lst xs)=.own xs true:=rfl
theorem Gc:oh (.tup xs)=.frz (.tup xs) true:=rfl
theorem Ge:oh (.int i)=.frz (.int i) true:=rfl
theorem Gf:oh (.bl bl)=.frz (.bl bl) true:=rfl
theorem JV:mR .len [a]=(fD a.val).map λn=>sc (.int (n:Nat)):=rfl
theorem Fc:mR .int [.frz (.bl bl) n]=some (sc (.int (if bl then 1 else 0))):=rfl
theorem Fb:mR (.isin t) [a]=(bi t a.val).map λb=>sc (.bl b):=rfl
theorem Co:mR .list [.frz (.tup xs) n]=some (.own xs n):=rfl
theorem Cp:mR .list [.frz (.lst xs) n]=some (.own xs n):=rfl
theorem zP:mR .tuple [.own xs n]=some (.frz (.tup xs) n):=rfl
theorem zQ:mR .tuple [.frz (.lst xs) n]=some (.frz (.tup xs) n):=rfl
theorem JW:mR .all [.own xs n]=(iZ xs).map λbs=>sc (.bl (bs.all id)):=rfl
theorem Cm:mR .sorted [.own xs n]=km xs:=rfl
theorem Cn:mR .sorted [.frz (.lst xs) n]=km xs:=rfl
theorem FZ:mR .sset [a]=(fO a.val).map λns=>.own ((L2.cA ns).map PV.int) true:=rfl
theorem Fa:mR .lset [a]=(fO a.val).map λns=>sc (.int ((L2.cA ns).length:Nat)):=rfl
theorem vG:BP .index (.frz (.str z) n) [.frz (.str y) m]=(Bv z y).map λj=>sc (.int (j:Nat)):=rfl
theorem FF:aq .In (.str y) (.str z)=some (Txt.contains z y):=rfl
theorem Kq:Jw (.frz (.tup xs) n)=some (xs,n):=rfl
theorem IP{t:Int}:yu (.frz (.dK c d) n) (some (.frz (.int t) m))=if c.length<=LN then(me t c d).map (λns=>.own (ns.map PV.int) true)else none:=rfl
theorem ix_L(k:Int):index (.frz (.lst xs) n) (.frz (.int k) m)=(ck xs k).map λe=>.frz e (n||imm e):=rfl
theorem ix_T(k:Int):index (.frz (.tup xs) n) (.frz (.int k) m)=(ck xs k).map λe=>.frz e (n||imm e):=rfl
theorem ix_O(k:Int):index (.own xs n) (.frz (.int k) m)=(ck xs k).map λe=>.frz e (n||imm e):=rfl
theorem ix_S(k:Int)(z:Str):index (.frz (.str z) n) (.frz (.int k) m)=if z.length<=LN then(ck z.cps.toList k).map λc=>sc (.str ⟨#[c]⟩)else none:=rfl
end
theorem sr  :bi "int" .non=some false:=by simp[bi]
theorem vO:bi "int" (.bl b)=some true:=by simp[bi]
theorem sv:bi "int" (.int i)=some true:=by simp[bi]
theorem sq:bi "int" (.str z)=some false:=by simp[bi]
theorem su:bi "int" (.lst a)=some false:=by simp[bi]
theorem sj:bi "int" (.tup a)=some false:=by simp[bi]
theorem vN:bi "int" (.dK a b)=some false:=by simp[bi]
theorem pW  :bi "bool" .non=some false:=by simp[bi]
theorem sx:bi "bool" (.bl b)=some true:=by simp[bi]
theorem pY:bi "bool" (.int i)=some false:=by simp[bi]
theorem pV:bi "bool" (.str z)=some false:=by simp[bi]
theorem pX:bi "bool" (.lst a)=some false:=by simp[bi]
theorem pU:bi "bool" (.tup a)=some false:=by simp[bi]
theorem sw:bi "bool" (.dK a b)=some false:=by simp[bi]
theorem si:bi "str" (.int i)=some false:=by simp[bi]
theorem sh:bi "str" (.str z)=some true:=by simp[bi]
theorem pT:bi "list" (.int i)=some false:=by simp[bi]
theorem pR:bi "list" (.str z)=some false:=by simp[bi]
theorem pS:bi "list" (.lst a)=some true:=by simp[bi]
theorem mn  :bi "tuple" .non=some false:=by simp[bi]
theorem pQ:bi "tuple" (.bl b)=some false:=by simp[bi]
theorem mr:bi "tuple" (.int i)=some false:=by simp[bi]
theorem mj:bi "tuple" (.str z)=some false:=by simp[bi]
theorem mq:bi "tuple" (.lst a)=some false:=by simp[bi]
theorem mi:bi "tuple" (.tup a)=some true:=by simp[bi]
theorem pP:bi "tuple" (.dK a b)=some false:=by simp[bi]
theorem ve  :aq .Is .non .non=some true:=rfl
theorem vg:aq .Is (.int i) .non=some false:=rfl
theorem vd:aq .Is (.str z) .non=some false:=rfl
theorem vf:aq .Is (.lst a) .non=some false:=rfl
theorem vc:aq .Is (.tup a) .non=some false:=rfl
theorem gi{a:Type}{f:PV->Option (Option (PV×Bool))}{h:a->PV}{g:a->PV}:∀{l:List a},(∀x∈l,f (h x)=some (some (g x,true)))->bg f (l.map h)=some (l.map g,true)
 |[],_=>rfl|x::xs,k=>by rw[Mm];unfold bg;rw[k x MX,gi λy hy=>k y (MW _ hy)];rfl
def To(o:Option Fl)(Q:Fl->Prop):Prop:=∃f,o=some f/\Q f
theorem DV:To (some f) Q↔Q f:=⟨λ⟨g,e,h⟩=>by cases e;exact h,λh=>⟨f,rfl,h⟩⟩
theorem To.imp{o:Option Fl}(h:To o Q)(k:∀f,Q f->a f):To o a :=by obtain⟨f,e,q⟩:=h;exact⟨f,e,k f q⟩
theorem nR{P:Nat->Option FD}{k:Nat}{Q:PV->Prop}(hP:P f=some d)(hl:vs.length=d.np)(h:To (ar (aC P k) 1000000 d.body (entry d vs)) λfl=>∃v,bo (some fl)=some v/\Q v):∃v,aC P (k+1) f vs=some v/\Q v:=by obtain⟨fl,e,v,h1,h2⟩:=h;exact⟨v,run hP hl (by rwa[e]),h2⟩
theorem cH{P:Nat->Option FD}{k:Nat}(hP:P f=some d)(hl:vs.length=d.np)(h:To (ar (aC P k) 1000000 d.body (entry d vs)) λfl=>bo (some fl)=some r):aC P (k+1) f vs=some r:=by obtain⟨fl,e,h1⟩:=h;exact run hP hl (by rwa[e])
section
variable{cd:Nat->List PV->Option PV}{fu:Nat}{τ:En}{cap:List Nat}{e e2:IE}{i j:Nat}{o one:Bool}{is:List Nat}{c:IC}{a b body:uK}{src:IT}
theorem l5:fJ cd fu (.asg i o cap e) τ=(aS cd e (bj cap τ)).bind λr=>(jV o i r (bj cap τ)).map .nx:=by simp only[jH]
theorem B9:fJ cd fu (.ret cap e) τ=(aS cd e (bj cap τ)).bind λr=>r.keep.bind λ(v,n)=>if n then some (.rt v)else none:=by simp only[i6]
theorem ly:fJ cd fu (.ife c a b) τ=(d0 cd c τ).bind λr=>if r then ar cd fu a τ else ar cd fu b τ:=by simp only[jA]
def rQ(i:Nat)(v:PV)(m:Bool)(d:En):Option Fl:=match d[i]? with
  |some (.own xs n)=>if xs.length<LN then some (.nx (d.set i (.own (xs++[v]) (n&&m))))else none|_=>none
theorem CA:fJ cd fu (.app i cap e) τ=(aS cd e (bj cap τ)).bind λr=>r.keep.bind λ(v,m)=>rQ i v m (bj cap τ):=by rfl
theorem cK(h:τ[i]? =some (.own d n))(f:d.length<LN):rQ i v m τ=some (.nx (τ.set i (.own (d++[v]) (n&&m)))):=by unfold rQ;rw[h];exact Ma f
theorem cN{xs:List PV}{n:Bool}{k:En->Option Fl}(ht:qJ cd src (bj cap τ)=some (xs,n,false))(I:Nat->En->Prop)(h0:I 0 (bj cap τ))
  (hs:∀(i:Nat)(x:PV)(τ:En),xs[i]? =some x->I i τ->∃τ1,oy is one n x τ=some τ1/\To (ar cd fu body τ1) λf=>match f with| .nx τ2=>I (i+1) τ2| .ct τ2=>I (i+1) τ2| .bk τ2=>To (k τ2) Q| .rt v=>Q (.rt v))
  (hk:∀τ',I xs.length τ' ->To (k τ') Q):To ((fJ cd fu (.forr is one cap src body) τ).bind λf=>gF f k) Q:=by
 obtain⟨fl,e,h⟩:=Ev I (λfl=>To (gF fl k) Q) h0 (λi x τ hx hI=>by
  obtain⟨τ1,h1,f,h2,h3⟩:=hs i x τ hx hI;refine⟨τ1,f,h1,h2,?_⟩;cases f with
  |nx τ2=>exact h3|ct τ2=>exact h3|bk τ2=>exact h3|rt v=>exact⟨_,rfl,h3⟩) hk
 have e2:fJ cd fu (.forr is one cap src body) τ=some fl:=by simp only[jC,ht,M5];exact e
 rwa[e2]
end
theorem bN:∀l:List Str,imms (l.map PV.str)=true
 |[]=>rfl|x::l=>by rw[Mm,imms,bN l];rfl
theorem Br(l:List Str):imm (.tup (l.map PV.str))=true:=by exact bN l
theorem Ff{l:List PV}{t:Int}(b:0<=t)(c:t<l.length):∃e,ck l t=some e/\e∈l:=by
 have a:t.toNat<l.length:=by omega
 refine⟨l[t.toNat],?_,OI a⟩;have:=bD (xs:=l) (j:=t.toNat) (v:=l[t.toNat]) (by simp);rwa[show((t.toNat:Nat):Int)=t by omega]at this
theorem Cj:cT .Add (.frz (.tup b) n) (.frz (.tup a) m)=pK (b++a) (n&&m):=rfl
theorem zO:cT .Add (.own b n) (.own a m)=mf (b++a) (n&&m):=rfl
theorem wR:slice (.frz (.tup a) n) b c=if HT.bZ a.length 0 b=0/\HT.bZ a.length a.length c=a.length then some (.frz (.tup a) n)else some (.frz (.tup (cut a b c)) n):=rfl
theorem mL(P:Nat->Option FD)(k f:Nat)(a:List PV):aC P (k+1) f a=(P f).bind λd=>if a.length=d.np then bo (ar (aC P k) 1000000 d.body (entry d a))else none:=rfl
section
variable{cd:Nat->List PV->Option PV}{fu:Nat}{τ:En}{e e2:IE}{i:Nat}
def augI(i:Nat)(b:Operator)(y:PV)(a:En):Option Fl:=match a[i]?,y,b with
  |some (.frz (.int x) _),.int y,.Add=>some (.nx (a.set i (.frz (.int (x+y)) true)))|some (.frz (.int x) _),.int y,.Sub=>some (.nx (a.set i (.frz (.int (x-y)) true)))|_,_,_=>none
theorem JD:fJ cd fu (.aug i a e) τ=(aS cd e τ).bind λr=>augI i a r.val τ:=by rfl
def setO(i:Nat)(k v:PV)(m:Bool)(a:En):Option Fl:=match k,a[i]? with
  | .int j,some (.own xs n)=>(L2.uP xs.length j).map λq=>.nx (a.set i (.own (xs.set q v) (n&&m)))|y,some (.owd (.dK ks) xs n)=>(xG y).bind λk=>if xs.length<LN then some (.nx (a.set i (.owd (.dK (K5 ks k)) (putL ks xs k v) (n&&m))))else none|_,_=>none
theorem zu{c:En->Option Bool}{body:En->Option Fl}(I:Nat->En->Prop)(R:Fl->Prop)(g:∀m a,I m a->∃b,c a=some b/\(b=true->0<m/\∃d,body a=some (.nx d)/\I (m-1) d)/\(b=false->R (.nx a))) :
  ∀(k m:Nat)(a:En),m<k->I m a->∃f,C9 c body k a=some f/\R f
 |0,m,a,h,_=>by omega|k+1,m,a,h,h0=>by
  obtain⟨b,o,l,j⟩:=g m a h0;unfold C9;rw[o];cases b with
  |false=>exact⟨_,rfl,j rfl⟩|true =>obtain⟨p,d,e,n⟩:=l rfl;dsimp only[Option.bind];rw[Ma rfl,e];exact zu I R g k (m-1) d (by omega) n
theorem whTo{body:uK}{k:En->Option Fl}(I:Nat->En->Prop)(m:Nat)(hm:m<fu)(h0:I m τ)
  (hs:∀m τ,I m τ->∃b,d0 cd c τ=some b/\(b=true->0<m/\To (ar cd fu body τ) λf=>∃τ2,f=.nx τ2/\I (m-1) τ2)/\(b=false->To (k τ) Q)):To ((fJ cd fu (.whil c body) τ).bind λf=>gF f k) Q:=by
 obtain⟨fl,e,h⟩:=zu I (λfl=>To (gF fl k) Q) (λm τ hI=>by obtain⟨b,h1,h2,h3⟩:=hs m τ hI;refine⟨b,h1,λz=> ?_,h3⟩;obtain⟨hm,f,e,τ2,rfl,h4⟩:=h2 z;exact⟨hm,τ2,e,h4⟩) fu m τ hm h0
 have e2:fJ cd fu (.whil c body) τ=some fl:=by simp only[iz];exact e
 rwa[e2]
end
theorem xh:aq .NotEq (.lst b) (.lst a)=(if eG 12 (.lst b)&&eG 12 (.lst a)then some (oF (.lst b) (.lst a))else none).map (!·):=rfl
theorem FH:aq .Eq (.lst b) (.lst a)=if eG 12 (.lst b)&&eG 12 (.lst a)then some (oF (.lst b) (.lst a))else none:=rfl
theorem at_0{b:Type}{x:b}{a:List b}:L2.ck (x::a) 0=some x:=by have:=bD (xs:=x::a) (j:=0) (v:=x) (by simp);exact this
theorem at_1{b:Type}{x y:b}{a:List b}:L2.ck (x::y::a) 1=some y:=by have:=bD (xs:=x::y::a) (j:=1) (v:=y) (by simp);exact this
theorem eR(h:((List.range n).map λi=>PV.int (0+(i:Nat)))[i]? =some x):i<n/\x=.int (i:Nat):=by
 rw[Mp]at h
 by_cases a:i<n
 .rw[Na a]at h
  refine⟨a,?_⟩;have:=(Mx h).symm
  simpa using this
 .rw[Ng (by simpa using a)]at h
  cases h
theorem gw:((List.range n).map λi=>PV.int (0+(i:Nat))).length=n:=by simp
theorem xU(h:(List.zipWith iD (List.range a.length) a)[i]? =some x):∃y,a[i]? =some y/\x=iD i y:=by
 rw[Oa]at h;cases e:a[i]? with
 |none=>rw[e]at h;cases b:(List.range a.length)[i]? <;>rw[b]at h<;>cases h|some y =>rw[e]at h;rw[Na ((Mh.mp e).1)]at h;exact⟨y,rfl,(Mx h).symm⟩
theorem tS:(List.zipWith iD (List.range a.length) a).length=a.length:=by rw[PK,NT,Pn]
theorem EG(c d:Nat):decide ((⟨#[c]⟩:Str)=⟨#[d]⟩)=decide (c=d):=by
 by_cases h:c=d;simp
 .rw[Mt h,Mt]
  intro e;have:=NG (λz:Str=>z.cps.toList) e;simp at this;exact h this
theorem jf(c:Nat):decide ((⟨#[c]⟩:Str)="x")=(c==120):=by have:=EG c 120;rw[show(⟨#[120]⟩:Str)="x" from rfl]at this;rw[this];rfl
theorem IK:fD (.dK a b)=some a.length:=rfl
theorem cC{a:Type}{f:PV->Option (Option (PV×Bool))}{h:a->PV}{p:a->Bool}{g:a->PV}:∀{l:List a},(∀x∈l,f (h x)=some (if p x then some (g x,true)else none))->bg f (l.map h)=some ((l.filter p).map g,true)
 |[],_=>rfl|x::xs,k=>by
  rw[Mm];unfold bg;rw[k x MX,cC λy hy=>k y (MW _ hy)];cases e:p x
  .simp[e]
  .simp[e]
theorem Ee(h:j<n):L2.uP n (j:Int)=some j:=by unfold L2.uP;rw[Ma (by omega),Ma (by omega)];simp
abbrev au:=List (Int×Int)
def iL(c:au)(k:Int):Option Int:=(c.find? λp=>decide (p.1=k)).map (·.2)
def jU(c:au)(k v:Int):au:=if(c.any λp=>decide (p.1=k))=true then c.map (λp=>if p.1=k then(p.1,v)else p)else c++[(k,v)]
def zT(c:au)(k n:Int):au:=jU c k ((iL c k).getD 0+n)
def bv(t n:Int)(c:au)(b:Int):au:=if Builtin.bitAnd t b=0 then zT c (Builtin.bitOr t b) n else c
def cu(B:List Int)(c:au)(p:Int×Int):au:=B.foldl (bv p.1 p.2) c
def GY(B:List Int)(c a:au):au:=a.foldl (cu B) c
def wl(a:List au)(B:List Int):Nat->List au
 |0=>a++[[]]|i+1=>(wl a B i).set (i+1) (GY B ((wl a B i).getD (i+1) []) (a.getD i []))
def bO(c:au):List (ag×V):=c.map λp=>(Sum.inl p.1,V.int p.2)
def jy(c:au):PV:=.dK (c.map λp=>Sum.inl p.1) (c.map λp=>.int p.2)
def qM:List ag->List PV->Option au
 |[],[]=>some []| .inl k::ks,.int v::vs=>(qM ks vs).map ((k,v)::·)|_,_=>none
def unT:PV->Option au
 | .dK a b=>qM a b|_=>none
def qo:List PV->Option (List au)
 |[]=>some []|x::xs=>(unT x).bind λc=>(qo xs).map (c::·)
def bt:List PV->Option PV
 |[.lst ls,.lst bs]=>(qo ls).bind λLs=>(aY bs).bind λB=>if Ls.length<=100/\B.length<=100/\(Ls.all λc=>decide (c.length<=1000))=true then some (.lst ((wl Ls B Ls.length).map jy))else none|_=>none
theorem lh:∀{a:List PV}{b:List Int},aY a=some b->a=b.map PV.int
 |[],b,h=>by cases h;rfl|x::a,b,h=>by
  cases x with
  |int c =>
   have h:(aY a).map (c::·)=some b:=h;cases e:aY a with
   |none=>rw[e]at h;cases h|some d =>rw[e]at h;cases h;rw[lh e];rfl
  |_=>cases h
theorem gc:∀a:List Int,aY (a.map PV.int)=some a
 |[]=>rfl|n::a=>by rw[Mm,aY,gc a];rfl
theorem qL:∀{a:List ag}{b:List PV}{c:au},qM a b=some c->a=c.map (λp=>Sum.inl p.1)/\b=c.map (λp=>.int p.2)
 |[],[],c,h=>by cases h;exact⟨rfl,rfl⟩| .inl k::a,.int v::b,c,h=>by
  have h:(qM a b).map ((k,v)::·)=some c:=h;cases e:qM a b with
  |none=>rw[e]at h;cases h|some d =>rw[e]at h;cases h;obtain⟨g,f⟩:=qL e;exact⟨by rw[g];rfl,by rw[f];rfl⟩
 | .inr z::a,b,c,h=>by cases h|[],v::b,c,h=>by cases h| .inl k::a,[],c,h=>by cases h| .inl k::a,.non::b,c,h=>by cases h| .inl k::a,.bl _::b,c,h=>by cases h| .inl k::a,.str _::b,c,h=>by cases h| .inl k::a,.lst _::b,c,h=>by cases h| .inl k::a,.tup _::b,c,h=>by cases h| .inl k::a,.dK _ _::b,c,h=>by cases h| .inl k::a,.dT _ _::b,c,h=>by cases h
theorem DT(h:unT v=some c):v=jy c:=by
 cases v with
 |dK d e =>obtain⟨b,a⟩:=qL h;unfold jy;rw[b,a]
 |_=>cases h
theorem qm:∀{d:List PV}{a:List au},qo d=some a->d=a.map jy
 |[],a,h=>by cases h;rfl|x::xs,a,h=>by
  simp only[qo]at h;cases e:unT x with
  |none=>rw[e]at h;cases h|some c =>
   rw[e]at h;simp only[Option.bind]at h;cases b:qo xs with
   |none=>rw[b]at h;cases h|some r =>rw[b]at h;cases h;rw[DT e,qm b];rfl
theorem wE:∀c:au,qM (c.map λp=>Sum.inl p.1) (c.map λp=>.int p.2)=some c
 |[]=>rfl|p::c=>by simp only[Mm,qM,wE c];rfl
theorem wI:∀a:List au,qo (a.map jy)=some a
 |[]=>rfl|c::a=>by simp only[Mm,qo,wI a];show(qM _ _).bind _=_;rw[wE];rfl
theorem E3(c:au)(k:Int):fE (bO c) (Sum.inl k)=(iL c k).map V.int:=by
 unfold fE bO iL
 induction c with
 |nil=>rfl|cons p c b =>
  rw[Mm,Nz,Nz]
  by_cases e:p.1=k;simp[e]
  .have a :¬((Sum.inl p.1:ag)=Sum.inl k):=λz=>e (Sum.inl.inj z)
   simp only[e,a,decide_false];exact b
theorem E2(c:au)(k v:Int):dv (bO c) (Sum.inl k) (V.int v)=bO (jU c k v):=by
 unfold dv jU;have a:((bO c).any λkv=>decide (kv.1=Sum.inl k))=(c.any λp=>decide (p.1=k)):=by
  unfold bO;rw[List.any_map]
  congr 1
  funext p
  simp
 rw[a]
 split
 .unfold bO
  rw[M4,M4];refine NO λp _=> ?_
  by_cases e:p.1=k;simp[e];simp[e]
 .unfold bO
  rw[Mr];rfl
theorem Av(c:au)(k v:Int):(jU c k v).length<=c.length+1:=by
 unfold jU
 split;rw[MT];omega;simp
theorem yU(t n:Int)(c:au)(b:Int):(bv t n c b).length<=c.length+1:=by
 unfold bv
 split;exact Av _ _ _;omega
theorem jb(t n:Int):∀(B:List Int)(c:au),(B.foldl (bv t n) c).length<=c.length+B.length
 |[],c=>by simp|b::B,c=>by rw[OO];have d:=jb t n B (bv t n c b);have a:=yU t n c b;rw[Mq];omega
theorem oC(B:List Int):∀(a c:au),(a.foldl (cu B) c).length<=c.length+a.length*B.length
 |[],c=>by simp|p::a,c=>by rw[OO];have d:=oC B a (cu B c p);have b:(cu B c p).length<=c.length+B.length:=jb p.1 p.2 B c;rw[Mq,Nat.succ_mul];omega
theorem kW(a:List au)(B:List Int):∀i,(wl a B i).length=a.length+1
 |0=>by simp[wl]|i+1=>by rw[wl,OE];exact kW a B i
theorem xW(c:au)(a:List V)(h:a=c.map λp=>V.int p.2):(c.map λp=>(Sum.inl p.1:ag)).zip a=bO c:=by
 subst h;unfold bO
 induction c with
 |nil=>rfl|cons p c b=>rw[Mm,Mm,Pr,b,Mm]
theorem rJ{K:W.Frag}(c:au):aG K b n (c.map λp=>PV.int p.2) H a↔a=c.map λp=>V.int p.2:=by
 have d:(c.map λp=>PV.int p.2)=(c.map (·.2)).map PV.int:=by rw[M4];rfl
 have e:(c.map λp=>V.int p.2)=(c.map (·.2)).map V.int:=by rw[M4];rfl
 rw[d,e];exact aG.ints
theorem G7{K:W.Frag}(h:Rp K d n (jy c) H u):∃p,u=.ref p/\H p=some (.dK (bO c)):=by obtain⟨p,b,rfl,_,a,e,r⟩:=h;rw[xW c b ((rJ c).mp r)]at a;exact⟨p,rfl,a⟩
theorem ya{K:W.Frag}(b:a p=none)(h:H p=some (.dK (bO c))):Rp K a true (jy c) H (.ref p):=by refine⟨p,c.map λp=>V.int p.2,rfl,λ_=>b,by rwa[xW c _ rfl],by simp,(rJ c).mpr rfl⟩
def uR(b:Hp)(A:Addr)(a:List Addr)(e:List au)(H:Hp):Prop :=
 aD b H/\b A=none/\H A=some (.lst (a.map V.ref))/\A∉a/\a.Nodup/\a.length=e.length/\∀(q:Nat)(d:Addr)(c:au),a[q]? =some d->e[q]? =some c->b d=none/\H d=some (.dK (bO c))
theorem uR.ext{A:Addr}(h:uR g A a f H)(s:aD H b):uR g A a f b :=by obtain⟨m,i,n,o,j,l,e⟩:=h;exact⟨m.trans s,i,s _ _ n,o,j,l,λq d c e1 e2=>⟨(e q d c e1 e2).1,s _ _ (e q d c e1 e2).2⟩⟩
theorem uR.put{A:Addr}{c':au}(h:uR r A g a H)(f:g[q]? =some d):uR r A g (a.set q c') (L2.upd H d (.dK (bO c'))):=by
 obtain⟨v,s,C,p,m,x,l⟩:=h;have I:=(Mh.mp f).1;have y:a[q]? =some (a[q]'(by omega)):=by simp[show q<a.length by omega]
 obtain⟨n,E⟩:=l q d _ f y;have D:A≠d:=λz=>p (z▸Mu f);refine⟨λb o e=>by rw[aA (aE e n)];exact v b o e,s,by rwa[aA D],p,m,by rwa[OE],λq' d' c e1 e2=> ?_⟩;rw[Ow]at e2
 by_cases e:q=q'
 .subst e
  rw[f]at e1;cases e1;rw[Ma rfl,Ma (by omega)]at e2;cases e2;exact⟨n,aB⟩
 .rw[MY e]at e2
  obtain⟨w,u⟩:=l q' d' c e1 e2;refine⟨w,?_⟩;rw[aA λz=>e ?_]
  .exact u
  .subst z
   have:=(List.getElem?_inj (j:=q) (Mh.mp e1).1 m).mp (by rw[e1,f]);exact this.symm
theorem uR.at{A:Addr}{q:Nat}(h:uR e A a b H)(g:a[q]? =some d)(f:b[q]? =some c):e d=none/\H d=some (.dK (bO c)):=h.2.2.2.2.2.2 q d c g f
theorem uR.push{A:Addr}{p:Addr}{c:au}(h:uR y A a f H)(j:H p=none):uR y A (a++[p]) (f++[c]) (L2.upd (L2.upd H p (.dK (bO c))) A (.lst (a.map V.ref++[.ref p]))):=by
 obtain⟨l,u,x,w,D,J,v⟩:=h;have C:A≠p:=λz=>by rw[z,j]at x;cases x
 have g:p∉a:=λz=>by obtain⟨q,n,e⟩:=List.mem_iff_getElem.mp z;obtain⟨_,i⟩:=v q p (f[q]'(by omega)) (by rw[Mk n,e]) (by simp[show q<f.length by omega]);rw[j]at i;cases i
 refine⟨λb o e=> ?_,u,?_,?_,?_,by simp[J],λq d c' e1 e2=> ?_⟩
 .rw[aA (aE e u),aA (aE e (l.free j))]
  exact l b o e
 .rw[aB,Mr]
  rfl
 .intro z
  rcases M7.mp z with z|z
  .exact w z
  .exact C (by simpa using z)
 .rw[Nk]
  exact⟨D,by simp,λa ha b hb e=>by
   have:b=p:=by simpa using hb
   rw[this]at e;exact g (e▸ha)⟩
 .by_cases n:q<a.length
  .rw[Oc n]at e1
   rw[Oc (by omega)]at e2;obtain⟨E,i⟩:=v q d c' e1 e2;have M:d≠A:=λz=>w (z▸Mu e1);have L:d≠p:=λz=>g (z▸Mu e1);exact⟨E,by rwa[aA M,aA L]⟩
  .rw[O5 (by omega)]at e1
   rw[O5 (by omega)]at e2;have I:q-a.length=0:=by
    cases e:q-a.length with
    |zero=>rfl|succ m=>rw[e]at e1;simp at e1
   rw[I]at e1;rw[show q-f.length=0 by omega]at e2;have s :p=d:=by simpa using e1
   have r :c=c' :=by simpa using e2
   subst s r;exact⟨l.free j,by rw[aA (Nd C),aB]⟩
theorem yZ{o:HO}{u:HO}(d:H p=none)(f:p≠a):aD (L2.upd H a u) (L2.upd (L2.upd H p o) a u):=λb x e=>by
 by_cases c:b=a
 .subst c
  rwa[aB]at e ⊢
 .rw[aA c]at e ⊢
  rwa[aA (aE e d)]
theorem wP{K:W.Frag}(h:bH K (L2.upd H a (.dK c)) b f):bH K H b f:=by
 have d:∀u,L2.upd H a (.dK c) b=some u->(∀k,u≠.dK k)->H b=some u:=λu e n=>by
  by_cases g:b=a
  .subst g
   rw[aB]at e;exact absurd (Mx e).symm (n _)
  .rw[aA g]at e
   exact e
 rcases h with(h|⟨o,h⟩)|h
 .exact .inl (.inl (d _ h λk z=>by cases z))
 .exact .inl (.inr ⟨o,d _ h λk z=>by cases z⟩)
 .exact .inr h
theorem E4{j:Nat}{k:ag}(h:(bO c)[j]? =some (k,x)):∃t n,c[j]? =some (t,n)/\k=.inl t/\x=.int n:=by
 unfold bO at h;rw[Mp]at h;cases e:c[j]? with
 |none=>rw[e]at h;cases h|some p =>rw[e]at h;have:=Mx h;cases this;exact⟨p.1,p.2,rfl,rfl,rfl⟩
theorem tV(c:au):(bO c).length=c.length:=by unfold bO;rw[MT]
theorem Fv(a:List au)(B:List Int):∀(i j:Nat),i<j->(wl a B i)[j]? =(a++[[]])[j]?
 |0,j,h=>rfl|i+1,j,h=>by rw[wl,NQ (by omega)];exact Fv a B i j (by omega)
theorem zy(h:a≠b):L2.upd (L2.upd H a x) b y=L2.upd (L2.upd H b y) a x:=by
 funext c
 unfold L2.upd
 by_cases d:c=a
 .subst d
  rw[MY h,Ma rfl,Ma rfl]
 .by_cases e:c=b
  .subst e
   rw[Ma rfl,MY d,Ma rfl]
  .rw[MY e,MY d,MY d,MY e]
theorem rH{K:W.Frag}{e:Hp}{H:Hp}:∀{b:List au}{a:List Addr},a.length=b.length->(∀(q:Nat)(d:Addr)(c:au),a[q]? =some d->b[q]? =some c->e d=none/\H d=some (.dK (bO c)))->aG K e true (b.map jy) H (a.map V.ref)
 |[],[],_,_=>.nil|c::b,d::a,hl,h=>by obtain⟨f,g⟩:=h 0 d c rfl rfl;exact .cons (ya f g) (rH (by simpa using hl) λq d' c' e1 e2=>h (q+1) d' c' (by simpa using e1) (by simpa using e2))
 |[],_::_,hl,_=>by cases hl|_::_,[],hl,_=>by cases hl
section
variable{X:Cx}{Hi:Hp}{τ:En}{cd:Nat->List PV->Option PV}{ct:Ct}{O:List Addr}{σ:L2.St}{H H' :Hp}{D:cE}
theorem nx_w(C:bh cd X ct)(c:X.fn=λ_=>true){n:Nat}(e:qu n ct b=d)(h:fJ cd f d τ=some (.nx a))(R:al X.K Hi O τ σ H)(g:σ.length=X.N.length)(q:wD X Hi O H a D.nx):WS X b D σ H:=by subst e;exact(Jf n).s X ct Hi τ b _ C c h O σ H D R g q
theorem Il(C:bh cd X ct){n:Nat}{t:Bool}(g:mZ n ct c=e)(d:d0 cd e τ=some t)(R:al X.K Hi O τ σ H)(h:t=true->∀G,aD H G->J4 X a D σ G)(f:t=false->∀G,aD H G->J4 X b D σ G):WS X (.If c a b pos) D σ H:=by
 refine ws (rV kF eS eS) ?_;rw[<- g]at d;refine(gO n).c X ct Hi τ c t C d O σ H _ R λG s=> ?_;cases t with
 |true=>exact sd (h rfl G s)|false=>exact sf (f rfl G s)
end
end IR
namespace IR
open PySem
set_option tactic.hygienic false
theorem uH(a b:Nat):Builtin.bitAnd (a:Int) (b:Int)=((a &&& b:Nat):Int):=by
 unfold Builtin.bitAnd;have d:decide ((0:Int)<=a)=true:=by simp
 have c:decide ((0:Int)<=b)=true:=by simp
 simp
theorem uC(a:Nat):Builtin.bitNot (a:Int)= -(a:Int)-1:=by unfold Builtin.bitNot;omega
theorem xo(a b:Nat):Builtin.bitOr (a:Int) (b:Int)=((a ||| b:Nat):Int):=by
 unfold Builtin.bitOr Builtin.bitAnd;rw[uC,uC];have e:decide ((0:Int)<= -a-1)=false:=by simp;omega
 have c:decide ((0:Int)<= -b-1)=false:=by simp;omega
 rw[e,c];have d:(Builtin.bitNot (-a-1)).toNat=a:=by unfold Builtin.bitNot;omega
 have f:(Builtin.bitNot (-b-1)).toNat=b:=by unfold Builtin.bitNot;omega
 rw[d,f];unfold Builtin.bitNot;omega
theorem dX:∀(n:Nat)(l:List Nat),l.Nodup->(∀x∈l,x<n)->l.length<=n
 |0,l,_,h=>by
  cases l with
  |nil=>simp|cons x l=>exact absurd (h x MX) (by omega)
 |n+1,l,nd,h=>by
  by_cases a:n∈l
  .have b:=dX n (l.erase n) (nd.erase n) λx hx=>by
    have:=(nd.mem_erase_iff).mp hx;have:=h x this.2;omega
   rw[List.length_erase_of_mem a]at b;omega
  .have:=dX n l nd λx hx=>by
    have c:=h x hx;have:x≠n:=λz=>a (z▸hx);omega
   omega
def bJ(c:au):Prop:=(c.map (·.1)).Nodup/\∀p∈c,(∃n:Nat,p.1=(n:Int)/\n<256)/\0<p.2
theorem bJ.len(h:bJ c):c.length<=256:=by
 have j:((c.map (·.1)).map Int.toNat).Nodup:=by rw[List.nodup_iff_pairwise_ne,Oh];refine(List.nodup_iff_pairwise_ne.mp h.1).imp_of_mem λ{a b} ha hb hne e=>hne ?_;obtain⟨p,d,rfl⟩:=Md.mp ha;obtain⟨q,i,rfl⟩:=Md.mp hb;obtain⟨⟨m,f,_⟩,_⟩:=h.2 p d;obtain⟨⟨n,l,_⟩,_⟩:=h.2 q i;omega
 have:=dX 256 _ j λx hx=>by obtain⟨y,g,rfl⟩:=Md.mp hx;obtain⟨p,d,rfl⟩:=Md.mp g;obtain⟨⟨m,f,o⟩,_⟩:=h.2 p d;omega
 simpa using this
def dM(a:Int->Int):au->Int
 |[]=>0|p::c=>p.2*a p.1+dM a c
theorem wF(a:Int->Int):∀c d:au,dM a (c++d)=dM a c+dM a d
 |[],d=>by simp[dM]|p::c,d=>by rw[List.cons_append,dM,dM,wF a c d];omega
theorem xu{c:au}{k:Int}:(c.any λp=>decide (p.1=k))=true↔k∈c.map (·.1):=by
 rw[List.any_eq_true,Md]
 constructor
 .rintro⟨p,a,e⟩
  exact⟨p,a,NA e⟩
 .rintro⟨p,a,e⟩
  exact⟨p,a,Mv e⟩
theorem Dt{c:au}{k:Int}(h:k∉c.map (·.1)):c.map (λp=>if p.1=k then(p.1,v)else p)=c:=by
 induction c with
 |nil=>rfl|cons p c b =>rw[Mm]at h ⊢;have a:¬p.1=k:=λz=>h (by rw[z];exact MX);rw[MY a,b λz=>h (MW _ z)]
theorem xO{k:Int}(h:k∈c.map (·.1)):∃v,iL c k=some v/\(k,v)∈c:=by
 unfold iL
 induction c with
 |nil=>cases h|cons p c a =>
  rw[Nz]
  by_cases e:p.1=k
  .refine⟨p.2,by simp[e],?_⟩
   subst e;exact MX
  .have b :k∈c.map (·.1):=by
    rcases Ml.mp h with z|z
    .exact absurd z.symm e
    .exact z
   obtain⟨v,d,f⟩:=a b;refine⟨v,?_,MW _ f⟩;simp only[e,decide_false];exact d
theorem tF{k:Int}(h:k∉c.map (·.1)):iL c k=none:=by
 unfold iL;rw[List.find?_eq_none.mpr];rfl
 .intro p a e
  exact h (Md.mpr ⟨p,a,NA e⟩)
theorem qf(b:Int->Int){k v w:Int}:∀{c:au},(c.map (·.1)).Nodup->iL c k=some v->dM b (c.map (λp=>if p.1=k then(p.1,w)else p))=dM b c+(w-v)*b k
 |[],_,h=>by cases h|p::c,nd,h=>by
  rw[Mm]at nd ⊢;have a:=M9.mp nd
  by_cases e:p.1=k
  .subst e
   rw[Ma rfl,Dt a.1];have f:v=p.2:=by unfold iL at h;simp at h;exact h.symm
   rw[dM,dM,Int.sub_mul];omega
  .have d :iL c k=some v:=by
    unfold iL at h ⊢;rw[Nz]at h;simp only[e,decide_false]at h;exact h
   rw[MY e,dM,dM,qf b a.2 d];omega
theorem wc{k:Int}(h:k∈c.map (·.1)):jU c k v=c.map (λp=>if p.1=k then(p.1,v)else p):=by unfold jU;rw[Ma (xu.mpr h)]
theorem rP{k:Int}(h:k∉c.map (·.1)):jU c k v=c++[(k,v)]:=by unfold jU;rw[MY λz=>h (xu.mp z)]
theorem Fq(a:Int->Int)(d:(c.map (·.1)).Nodup)(k n:Int):dM a (zT c k n)=dM a c+n*a k:=by
 unfold zT
 by_cases h:k∈c.map (·.1)
 .obtain⟨v,b,_⟩:=xO h
  rw[wc h,b,qf a d b]
  congr 2
  simp;omega
 .rw[rP h,tF h,wF]
  simp[dM]
theorem zS(h:bJ c){m:Nat}(q:m<256){n:Int}(r:0<n):bJ (zT c (m:Int) n):=by
 unfold zT
 by_cases d:((m:Int))∈c.map (·.1)
 .obtain⟨v,o,a⟩:=xO d
  rw[wc d,o];have e:(c.map (λp=>if p.1=(m:Int)then(p.1,(some v).getD 0+n)else p)).map (·.1)=c.map (·.1):=by
   rw[M4];refine NO λp _=> ?_;dsimp only[Function.comp]
   split<;>rfl
  refine⟨by rw[e];exact h.1,λp hp=> ?_⟩;obtain⟨j,f,rfl⟩:=Md.mp hp;obtain⟨i,l⟩:=h.2 j f
  split
  .refine⟨i,?_⟩
   have:=(h.2 _ a).2;show 0<v+n;omega
  .exact⟨i,l⟩
 .rw[rP d,tF d]
  refine⟨?_,λp hp=> ?_⟩
  .rw[Mr,Nk]
   refine⟨h.1,by simp,λa ha b g e=> ?_⟩;have g:b=m:=by simpa using g
   rw[g]at e;rw[e]at ha;exact d ha
  .rcases M7.mp hp with z|z
   .exact h.2 p z
   .have:p=((m:Int),none.getD 0+n):=by simpa using z
    rw[this];exact⟨⟨m,rfl,q⟩,by show 0<0+n;omega⟩
def mX(B:List Int):Prop:=∀b∈B,∃n:Nat,b=((2^n:Nat):Int)/\n<8
theorem LA(c:a<256)(d:b<256):a ||| b<256:=Nat.or_lt_two_pow (n:=8) c d
theorem kl(h:bJ c){t:Nat}(d:t<256)(b:0<n)(a:j<8):bJ (bv (t:Int) n c ((2^j:Nat):Int)):=by
 unfold bv
 split
 .rw[xo]
  exact zS h (LA d (Nat.pow_lt_pow_right (by decide) (show j<8 from a))) b
 .exact h
theorem gg{t:Nat}(d:t<256){n:Int}(a:0<n):∀{B:List Int}{c:au},mX B->bJ c->bJ (B.foldl (bv (t:Int) n) c)
 |[],c,_,h=>h|b::B,c,hB,h=>by obtain⟨j,rfl,e⟩:=hB b MX;exact gg (B:=B) d a (λb hb=>hB b (MW _ hb)) (kl h d a e)
theorem qk{B:List Int}(a:mX B):∀{lev c:au},bJ lev->bJ c->bJ (GY B c lev)
 |[],c,_,h=>h|p::lev,c,hl,h=>by
  obtain⟨⟨t,d,e⟩,b⟩:=hl.2 p MX;have f:bJ (cu B c p):=by unfold cu;rw[d];exact gg e b a h
  exact qk (lev:=lev) a ⟨(M9.mp (show(p.1::lev.map (·.1)).Nodup from hl.1)).2,λq hq=>hl.2 q (MW _ hq)⟩ f
theorem iK:bJ []:=⟨by simp,λp hp=>by cases hp⟩
theorem oX{a:List au}{B:List Int}(b:mX B)(h:∀c∈a,bJ c):∀i,∀c∈wl a B i,bJ c
 |0,c,hc=>by
  rcases M7.mp hc with z|z
  .exact h c z
  .have:c=[]:=by simpa using z
   rw[this];exact iK
 |i+1,c,hc=>by
  have f:=oX b h i
  rcases List.mem_or_eq_of_mem_set hc with z|z
  .exact f c z
  .rw[z]
   refine qk b ?_ ?_
   .rw[Mf]
    cases e:a[i]? with
    |none=>exact iK|some d=>exact h d (Mu e)
   .rw[Mf]
    cases e:(wl a B i)[i+1]? with
    |none=>exact iK|some d=>exact f d (Mu e)
theorem dF{a:Type}{P:List a->Prop}(c:P [])(b:∀l x,P l->P (l++[x])):∀l,P l:=by
 intro l;have:∀r:List a,P r.reverse:=by
  intro r
  induction r with
  |nil=>exact c|cons x r d=>rw[PX];exact b _ _ d
 have:=this l.reverse
 rwa [List.reverse_reverse]at this
def bR{a:Type}(l:List a)(f:a->Int):Int:=(l.map f).sum
theorem aU{a:Type}(x:a)(l:List a)(f:a->Int):bR (x::l) f=f x+bR l f:=by unfold bR;rw[Mm,List.sum_cons]
theorem cG{a:Type}(f:a->Int):bR ([]:List a) f=0:=rfl
theorem bG{a:Type}{l:List a}{f g:a->Int}(h:∀x∈l,f x=g x):bR l f=bR l g:=by unfold bR;rw[NO h]
def cnt:List (List Nat)->List Nat->Nat->Int
 |[],_,0=>1|[],_,_+1=>0|_::rs,T,0=>cnt rs T 0|r::rs,T,k+1=>cnt rs T (k+1)+bR (r.filter λc=> !T.contains c) λc=>cnt rs (c::T) k
theorem ao:∀(a:List (List Nat))(T:List Nat),cnt a T 0=1
 |[],_=>rfl|_::a,T=>by rw[cnt];exact ao a T
theorem cD:∀(a:List (List Nat)){T b :List Nat}(k:Nat),(∀r∈a,∀c∈r,T.contains c=b.contains c)->cnt a T k=cnt a b k
 |[],_,_,0,_=>rfl|[],_,_,_+1,_=>rfl|_::a,T,b,0,h=>by rw[cnt,cnt];exact cD a 0 λr hr=>h r (MW _ hr)|r::a,T,b,k+1,h=>by
  rw[cnt,cnt,cD a (k+1) λr hr=>h r (MW _ hr)];have e:(r.filter λc=> !T.contains c)=r.filter λc=> !b.contains c:=Py λc hc=>by rw[h r MX c hc]
  rw[e];refine NG (_+·) (bG λc _=>cD a k λr' hr' d hd=> ?_);rw[Ot,Ot,h r' (MW _ hr') d hd]
theorem wG(a b:Int->Int):∀c:au,dM (λm=>a m+b m) c=dM a c+dM b c
 |[]=>by simp[dM]|p::c=>by rw[dM,dM,dM,wG a b c,Int.mul_add];omega
theorem jJ{a χ:Int->Int}:∀{c:au},(∀p∈c,a p.1=χ p.1)->dM a c=dM χ c
 |[],_=>rfl|p::c,h=>by rw[dM,dM,h p MX,jJ λq hq=>h q (MW _ hq)]
def Sb(B:List Int)(a:Int->Int)(m:Int):Int:=bR B λb=>if Builtin.bitAnd m b=0 then a (Builtin.bitOr m b)else 0
theorem oD(a:Int->Int){t:Nat}(f:t<256){n:Int}(d:0<n):∀{B:List Int}{c:au},mX B->bJ c->dM a (B.foldl (bv (t:Int) n) c)=dM a c+n*Sb B a (t:Int)
 |[],c,_,_=>by rw[List.foldl_nil];unfold Sb;rw[cG];omega
 |b::B,c,hB,h=>by
  obtain⟨j,rfl,g⟩:=hB b MX;rw[OO,oD a f d (λb hb=>hB b (MW _ hb)) (kl h f d g)];have e:dM a (bv t n c ((2^j:Nat):Int))=dM a c+n*(if Builtin.bitAnd t ((2^j:Nat):Int)=0 then a (Builtin.bitOr t ((2^j:Nat):Int))else 0):=by
   unfold bv
   split;rw[Fq a h.1];simp
  unfold Sb;rw[aU,Int.mul_add];omega
theorem wH(b:Int->Int){B:List Int}(f:mX B):∀{a c:au},bJ a->bJ c->dM b (GY B c a)=dM b c+dM (Sb B b) a
 |[],c,_,_=>by simp[GY,dM]|p::a,c,hl,h=>by
  obtain⟨⟨t,i,j⟩,g⟩:=hl.2 p MX;have d:bJ a:=⟨(M9.mp (show(p.1::a.map (·.1)).Nodup from hl.1)).2,λq hq=>hl.2 q (MW _ hq)⟩;have l:bJ (cu B c p):=by unfold cu;rw[i];exact gg j g f h
  have e:GY B c (p::a)=GY B (cu B c p) a:=rfl;rw[e,wH b f d l,dM];have m:dM b (cu B c p)=dM b c+p.2*Sb B b p.1:=by unfold cu;rw[i];exact oD b j g f h
  omega
theorem uW(a:List au)(B:List Int):∀(i j:Nat),i<=a.length->(wl a B i)[j]? =if j=0\/i<j then(a++[[]])[j]? else some (GY B ((a++[[]]).getD j []) (a.getD (j-1) []))
 |0,j,_=>by
  rw[wl]
  by_cases h:j=0\/0<j;rw[Ma h];omega
 |i+1,j,hi=>by
  rw[wl,Ow,kW]
  by_cases h:i+1=j
  .subst h
   rw[Ma rfl,Ma (by omega),MY (by omega),Mf,uW a B i (i+1) (by omega),Ma (.inr (by omega)),<-Mf];rfl
  .rw[MY h,uW a B i j (by omega)]
   by_cases b:j=0\/i<j;rw[Ma b,Ma (by omega)]
   .rw[MY b,MY (by omega)]
def mF(m:Nat):List Nat:=(List.range 8).filter λc=>m.testBit c
theorem gA(a:c<8):(mF m).contains c=m.testBit c:=by unfold mF;rw[NU,NZ,NL,ND];exact⟨λh=>h.2,λh=>⟨a,h⟩⟩
theorem Fk(m c:Nat):(m &&& 2^c=0)↔m.testBit c=false:=by
 constructor
 .intro h
  have:=NG (λx=>Nat.testBit x c) h
  simpa [Nat.testBit_and,Nat.testBit_two_pow_self]using this
 .intro h
  refine Nat.eq_of_testBit_eq λi=> ?_;rw[Nat.testBit_and,Nat.zero_testBit,Nat.testBit_two_pow]
  by_cases e:c=i
  .subst e
   simp[h]
  .simp[e]
def j8(r:List Nat):List Int:=r.map λc=>((2^c:Nat):Int)
theorem mO(h:∀c∈r,c<8):mX (j8 r):=λb hb=>by obtain⟨c,a,rfl⟩:=Md.mp hb;exact⟨c,rfl,h c a⟩
def iu(a:List (List Nat)):Prop:=∀r∈a,∀c∈r,c<8
theorem qg:∀c:au,dM (λ_=>0) c=0
 |[]=>rfl|p::c=>by rw[dM,qg c];omega
abbrev bz:=Nat×Nat
def JY(cells:List bz)(k:Nat):List bz:=(cells.drop (k+1)).filter λc=>decide ((cells.getD k (0,0)).1<c.1)
def pl:Nat->List bz->List Int->Nat->Int
 |_,_,_,0=>1|0,_,_,_+1=>0|n+1,cells,T,j+1=>bR (List.range cells.length) λk=>if T.contains ((cells.getD k (0,0)).2:Int)then 0 else pl n (JY cells k) (T++[((cells.getD k (0,0)).2:Int)]) j
def jx(i:Nat)(r:List Nat):List bz:=r.map λc=>(i,c)
def fA:Nat->List (List Nat)->List bz
 |_,[]=>[]|i,r::rs=>jx i r++fA (i+1) rs
theorem mI:∀(i:Nat)(a:List (List Nat)),∀c∈fA i a,i<=c.1/\c.1<i+a.length
 |i,[],c,h=>by cases h|i,r::a,c,h=>by
  rcases M7.mp h with z|z
  .obtain⟨x,_,rfl⟩:=Md.mp z
   exact⟨Mc _,by rw[Mq];omega⟩
  .have:=mI (i+1) a c z
   rw[Mq];omega
theorem tQ{l:List bz}(h:∀c∈l,p c=false):l.filter p=[]:=List.filter_eq_nil_iff.mpr λc hc=>by rw[h c hc];exact MZ
def eK(a:List Int):List Int:=(a.reverse.dropWhile λx=>decide (x=0)).reverse
theorem gQ(a:List Int):eK (a++[0])=eK a:=by unfold eK;simp
theorem gR(a:List Int)(h:y≠0):eK (a++[y])=a++[y]:=by unfold eK;simp[h]
def aT(z:Str):List Nat:=(List.range z.length).filter λc=>z.cps.toList.getD c 0==120
def bF(a:List Str):List bz:=fA 0 (a.map aT)
def att(a b:bz):Bool:=a.1==b.1||a.2==b.2
def BI(x:bz)(l:List bz):List bz:=l.filter λy=> !att x y
def Kk(f:bz->List bz->Int):List bz->Int
 |[]=>0|x::xs=>f x xs+Kk f xs
def rk:Nat->List bz->Int
 |0=>λ_=>1|k+1=>Kk λx xs=>rk k (BI x xs)
theorem o6(l:List bz):rk 0 l=1:=rfl
theorem uo(k:Nat):rk (k+1) []=0:=rfl
theorem gx(k:Nat)(x:bz)(a:List bz):rk (k+1) (x::a)=rk (k+1) a+rk k (BI x a):=by show rk k (BI x a)+rk (k+1) a=_;omega
theorem An(k i:Nat)(b:List bz)(a:∀c∈b,i<c.1):∀r:List Nat,rk (k+1) (jx i r++b)=rk (k+1) b+bR r λc=>rk k (b.filter λy=> !(c==y.2))
 |[]=>by show rk (k+1) b=_;rw[cG];omega
 |c::r=>by
  show rk (k+1) ((i,c)::(jx i r++b))=_;rw[gx,An k i b a r,aU];have e:BI (i,c) (jx i r++b)=b.filter λy=> !(c==y.2):=by
   unfold BI;rw[OY,tQ λy hy=> ?_,List.nil_append]
   .refine Py λy hy=> ?_
    have:=a y hy;unfold att;have f:(i==y.1)=false:=by simp;omega
    rw[f,Bool.false_or]
   .obtain⟨d,_,rfl⟩:=Md.mp hy
    simp[att]
  omega
def freeC(T:List Nat)(l:List bz):List bz:=l.filter λc=> !T.contains c.2
theorem jS:∀(a:List (List Nat))(k i:Nat)(T:List Nat),rk k (freeC T (fA i a))=cnt a T k
 |a,0,i,T=>by rw[o6,ao]|[],k+1,i,T=>by rw[cnt];rfl|r::a,k+1,i,T=>by
  have e:freeC T (fA i (r::a))=jx i (r.filter λc=> !T.contains c)++freeC T (fA (i+1) a):=by
   unfold freeC;rw[fA,OY]
   congr 1
   unfold jx;rw[List.filter_map];rfl
  rw[e,An k i _ (λc hc=>by have:=(mI (i+1) a c (NL.mp hc).1).1;omega),jS a (k+1) (i+1) T,cnt];refine NG (_+·) (bG λc _=> ?_);rw[<- jS a k (i+1) (c::T)]
  congr 1
  unfold freeC;rw[List.filter_filter];refine Py λy _=> ?_;rw[Ot,Bool.not_or]
  congr 1
  rw[NU];simp only[ON,OC,ne_eq];exact⟨λh z=>h z.symm,λh z=>h z.symm⟩
theorem fw(l:List bz):freeC [] l=l:=by exact List.filter_eq_self.mpr λc _=>rfl
def kz(l:List bz):List Int:=((List.range 65).map λk=>rk k l).filter λn=>decide (0<n)
end IR
namespace IR
open PySem L2
set_option tactic.hygienic false
theorem eQ:∀(k:Nat)(l:List bz),0<=rk k l
 |0,l=>by rw[o6];omega|k+1,[]=>by rw[uo];omega|k+1,x::xs=>by rw[gx];have b:=eQ (k+1) xs;have a:=eQ k (BI x xs);omega
theorem o8:∀(k:Nat)(l:List bz),0<rk (k+1) l->0<rk k l
 |0,l,_=>by rw[o6];omega|k+1,[],h=>by rw[uo]at h;omega|k+1,x::xs,h=>by rw[gx]at h;rw[gx];have b:=eQ (k+1) xs;have a:=eQ k (BI x xs);have c:=o8 (k+1) xs;have d:=o8 k (BI x xs);omega
theorem EK(x:bz)(l:List bz):(BI x l).length<=l.length:=NM _ _
theorem o7:∀(k:Nat)(l:List bz),l.length<k->rk k l=0
 |0,l,h=>by omega|k+1,[],_=>uo k|k+1,x::xs,h=>by rw[Mq]at h;have:=EK x xs;rw[gx,o7 (k+1) xs (by omega),o7 k (BI x xs) (by omega)];rfl
theorem B7(f:Nat->Int)(i:∀k,0<=f k)(j:∀k,0<f (k+1)->0<f k):∀N,∃m,m<=N/\((List.range N).map f).filter (λn=>decide (0<n))=(List.range m).map f/\(∀k,k<m->0<f k)/\∀k,m<=k->k<N->f k=0
 |0=>⟨0,Mc _,rfl,λk h=>by omega,λk _ h=>by omega⟩|N+1=>by
  obtain⟨m,s,o,q,l⟩:=B7 f i j N;rw[Oe,Mr,OY,o]
  by_cases g:0<f N
  .have c:∀d k,k+d=N->0<f k:=by
    intro d
    induction d with
    |zero=>intro k e;rw[show k=N by omega];exact g|succ d r=>intro k e;exact j k (r (k+1) (by omega))
   have p:m=N:=by
    by_cases z:m=N;exact z
    .have:=c (N-m) m (by omega)
     have:=l m (Mc _) (by omega);omega
   refine⟨N+1,Mc _,?_,λk hk=>c (N-k) k (by omega),λk a b=>by omega⟩;rw[p,Oe,Mr];simp[g]
  .refine⟨m,by omega,by simp[g],q,λk a b=> ?_⟩
   by_cases z:k=N
   .have:=i k;omega
   .exact l k a (by omega)
theorem o0(l:List bz)(d:l.length<=64):∃m,kz l=(List.range m).map (λk=>rk k l)/\(∀k,k<m->0<rk k l)/\∀k,m<=k->rk k l=0:=by
 obtain⟨m,_,a,b,c⟩:=B7 (λk=>rk k l) (λk=>eQ k l) (λk=>o8 k l) 65;refine⟨m,a,b,λk hk=> ?_⟩
 by_cases z:k<65;exact c k hk z;exact o7 k l (by omega)
theorem mJ:∀(i:Nat)(a:List (List Nat)),(∀r∈a,r.length<=8)->(fA i a).length<=8*a.length
 |_,[],_=>Mc _|i,r::a,h=>by have c:=mJ (i+1) a λr' hr' =>h r' (MW _ hr');have b:=h r MX;rw[fA,Mj,Mq];unfold jx;rw[MT];omega
theorem gk(a:List Str)(d:a.length<=8)(c:∀z∈a,z.length<=8):(bF a).length<=64:=by
 have:=mJ 0 (a.map aT) λr hr=>by obtain⟨z,b,rfl⟩:=Md.mp hr;refine M8 (NM _ _) ?_;rw[NT];exact c z b
 rw[MT]at this;unfold bF;omega
def bk(w j:Nat):Nat:=if j<w then w-1-j else j
def ch:Nat->Nat->Nat
 |_,0=>1|0,_+1=>0|n+1,k+1=>ch n (k+1)+ch n k
def fl:Nat->Nat->Nat
 |_,0=>1|n,k+1=>n*fl (n-1) k
def fn(m n k:Nat):Int:=((ch m k*fl n k:Nat):Int)
theorem AR{a:Type}(l:List a)(f g:a->Int):bR l (λx=>f x+g x)=bR l f+bR l g:=by
 induction l with
 |nil=>rfl|cons x l b=>rw[aU,aU,aU,b];omega
theorem yR{a:Type}{l:List a}{f:a->Int}(h:∀x∈l,f x=0):bR l f=0:=by
 induction l with
 |nil=>rfl|cons x l b=>rw[aU,h x MX,b λy hy=>h y (MW _ hy)];rfl
theorem DY{a:Type}(l:List a)(p:a->Bool)(f:a->Int):bR l (λx=>if p x then f x else 0)=bR (l.filter p) f:=by
 induction l with
 |nil=>rfl|cons x l b =>rw[aU,b,N7];cases p x;simp;simp[aU]
section
variable(b:Nat->Nat->Bool)
def ge:List Nat->List Nat->Nat->Int
 |[],_,j=>if j=0 then 1 else 0|i::L,C,j=>bR C λc=>if b i c then(if j=0 then 0 else ge L (C.erase c) (j-1))else ge L (C.erase c) j
end
theorem yS{b a:Type}(l:List b)(g:b->a)(f:a->Int):bR (l.map g) f=bR l λx=>f (g x):=by unfold bR;rw[M4];rfl
theorem nK{a:Type}(l b :List a)(f:a->Int):bR (l++b) f=bR l f+bR b f:=by unfold bR;rw[Mr,List.sum_append]
abbrev bM:=List (List Int×Int)
def fG(c:bM)(k:List Int):Option Int:=(c.find? λp=>decide (p.1=k)).map (·.2)
def putN(c:bM)(k:List Int)(v:Int):bM:=if(c.any λp=>decide (p.1=k))=true then c.map (λp=>if p.1=k then(p.1,v)else p)else c++[(k,v)]
def v9(c:bM)(k:List Int)(n:Int):bM:=putN c k ((fG c k).getD 0+n)
def eU(k:List Int)(c:Int):List Int:=sortI (k++[c])
def eM(t:List Int)(n:Int)(f:bM)(c:Int):bM:=if t.contains c then f else v9 f (eU t c) n
def kj(B:List Int)(f:bM)(p:List Int×Int):bM:=B.foldl (eM p.1 p.2) f
def nu(B:List Int)(c:bM):bM:=c.foldl (kj B) c
def fR(a:List (List Int)):bM:=a.foldl (λc B=>nu B c) [([],1)]
def wN(a:List Int->Int)(c:bM):Int:=bR c λp=>p.2*a p.1
theorem io{c:bM}{k:List Int}:(c.any λp=>decide (p.1=k))=true↔k∈c.map (·.1):=by rw[List.any_eq_true,Md];exact⟨λ⟨p,h,e⟩=>⟨p,h,NA e⟩,λ⟨p,h,e⟩=>⟨p,h,Mv e⟩⟩
theorem Bx{k:List Int}(h:k∉c.map (·.1)):fG c k=none:=by unfold fG;rw[List.find?_eq_none.mpr λp hp z=>h (Md.mpr ⟨p,hp,NA z⟩)];rfl
theorem Jg(a:List Int->Int){k:List Int}:∀{c:bM},(c.map (·.1)).Nodup->wN a (v9 c k n)=wN a c+n*a k:=by
 have d:∀{c:bM}{w:Int},(c.map (·.1)).Nodup->k∈c.map (·.1)->wN a (c.map λp=>if p.1=k then(p.1,w)else p)=wN a c+(w-(fG c k).getD 0)*a k:=by
  intro c w
  induction c with
  |nil=>intro _ h;simp at h|cons p c j =>
   intro b h;rw[Mm,M9]at b;unfold wN;rw[Mm,aU,aU]
   by_cases e:p.1=k
   .rw[Ma e]
    have i:c.map (λp=>if p.1=k then(p.1,w)else p)=c:=by refine(NO λq hq=> ?_).trans (List.map_id c);rw[MY λz=>(λz=>b.1 (e▸z)) (Md.mpr ⟨q,hq,z⟩)];rfl
    have f:fG (p::c) k=some p.2:=by unfold fG;rw[List.find?_cons_of_pos (by simpa using e)];rfl
    rw[i,f,<-e];simp only[Option.getD_some,Int.sub_mul];omega
   .rw[MY e]
    have g:k∈c.map (·.1):=by rw[Mm,Ml]at h;exact h.resolve_left λz=>e z.symm
    have:=j b.2 g;unfold wN at this;have f:fG (p::c) k=fG c k:=by unfold fG;rw[List.find?_cons_of_neg (by simpa using e)]
    omega
 intro c b;unfold v9 putN
 by_cases h:k∈c.map (·.1)
 .rw[Ma (io.mpr h),d b h]
  have:(fG c k).getD 0+n-(fG c k).getD 0=n:=by omega
  rw[this]
 .rw[MY λz=>h (io.mp z),Bx h]
  unfold wN;rw[nK,aU,cG];simp
theorem zU{k:List Int}{n:Int}(a:(c.map (·.1)).Nodup):((v9 c k n).map (·.1)).Nodup/\∀q,q∈(v9 c k n).map (·.1)↔q∈c.map (·.1)\/q=k:=by
 unfold v9 putN
 by_cases h:k∈c.map (·.1)
 .rw[Ma (io.mpr h)]
  have e:(c.map λp=>if p.1=k then(p.1,(fG c k).getD 0+n)else p).map (·.1)=c.map (·.1):=by
   rw[M4];refine NO λp _=> ?_;show(if p.1=k then(p.1,_)else p).1=p.1
   split<;>rfl
  rw[e];exact⟨a,λq=>⟨.inl,λz=>z.elim id λe=>e▸h⟩⟩
 .rw[MY λz=>h (io.mp z),Mr]
  refine⟨?_,λq=>by simp⟩;rw[Nk];exact⟨a,by simp,λa ha b hb e=>h (by rwa[<- (show b=k by simpa using hb),<-e])⟩
def cR(k:List Int):Prop:=k.Pairwise (·<·)/\∀c∈k,0<=c/\c<8
def bU(c:bM):Prop:=(c.map (·.1)).Nodup/\∀k∈c.map (·.1),cR k
theorem gY(k:List Int)(c:Int):(eU k c).Perm (c::k):=(sortI_perm _).trans (List.perm_append_singleton c k)
theorem sO{k:List Int}(h:cR k)(d:0<=c/\c<8)(a:c∉k):cR (eU k c):=by
 have p:=gY k c;refine⟨?_,λx hx=> ?_⟩
 .exact((rC (k++[c])).and (p.nodup_iff.mpr (M9.mpr ⟨a,h.1.imp λh=>Int.ne_of_lt h⟩))).imp λh=>by omega
 .rcases Ml.mp (p.mem_iff.mp hx)with rfl|hx
  .exact d
  .exact h.2 x hx
set_option tactic.hygienic true in
theorem qy{t:List Int}(h:bU f)(e:cR t)(g:0<=c/\c<8):bU (eM t n f c)/\(∀k∈f.map (·.1),k∈(eM t n f c).map (·.1)):=by
 unfold eM
 split;exact⟨h,λk hk=>hk⟩
 .rename_i d
  obtain⟨a,b⟩:=zU h.1;refine⟨⟨a,λk hk=> ?_⟩,λk hk=>(b k).mpr (.inl hk)⟩
  rcases(b k).mp hk with hk|rfl
  .exact h.2 k hk
  .exact sO e g (by simpa using d)
theorem iO{t:List Int}{n:Int}(a:cR t):∀{B:List Int}{f:bM},bU f->(∀c∈B,0<=c/\c<8)->bU (B.foldl (eM t n) f)
 |[],f,h,_=>h|c::B,f,h,hB=>by rw[OO];exact iO a (qy h a (hB c MX)).1 λd hd=>hB d (MW _ hd)
theorem lq{B:List Int}(a:∀c∈B,0<=c/\c<8):∀{c f:bM},bU f->(∀p∈c,cR p.1)->bU (c.foldl (kj B) f)
 |[],f,h,_=>h|p::c,f,h,hc=>by rw[OO];exact lq a (iO (n:=p.2) (hc p MX) h a) λq hq=>hc q (MW _ hq)
theorem BR{B:List Int}(a:∀c∈B,0<=c/\c<8)(h:bU c):bU (nu B c):=lq a h λp hp=>h.2 _ (Md.mpr ⟨p,hp,rfl⟩)
theorem EH:bU [([],1)]:=⟨by simp,λk hk=>by
 have:k=[]:=by simpa using hk
 subst this;exact⟨.nil,λc hc=>nomatch hc⟩⟩
def Jk(a:List Int->Int)(B:List Int)(t:List Int):Int:=bR B λc=>if t.contains c then 0 else a (eU t c)
theorem xR(a:List Int->Int){t:List Int}{n:Int}(b:cR t):∀{B:List Int}{f:bM},bU f->(∀c∈B,0<=c/\c<8)->wN a (B.foldl (eM t n) f)=wN a f+n*Jk a B t
 |[],f,h,_=>by unfold Jk;rw[cG];simp|c::B,f,h,hB=>by
  rw[OO,xR a b (qy h b (hB c MX)).1 λd hd=>hB d (MW _ hd)];unfold Jk eM;rw[aU]
  split;rw[O9]
  .rw[Jg a h.1,Int.mul_add]
   omega
theorem xQ(a:List Int->Int){B:List Int}(b:∀c∈B,0<=c/\c<8):∀{c f:bM},bU f->(∀p∈c,cR p.1)->wN a (c.foldl (kj B) f)=wN a f+wN (Jk a B) c
 |[],f,h,_=>by unfold wN;rw[cG,List.foldl_nil];simp|p::c,f,h,hc=>by rw[OO,xQ a b (f:=kj B f p) (iO (n:=p.2) (hc p MX) h b) λq hq=>hc q (MW _ hq)];unfold kj;rw[xR a (hc p MX) h b];unfold wN;rw[aU];omega
theorem EV(a:List Int->Int){B:List Int}(b:∀c∈B,0<=c/\c<8)(h:bU c):wN a (nu B c)=wN (λt=>a t+Jk a B t) c:=by unfold nu;rw[xQ a b h λp hp=>h.2 _ (Md.mpr ⟨p,hp,rfl⟩)];unfold wN;rw[<- AR];refine bG λp _=> ?_;rw[Int.mul_add]
def sK(t:List Int):List Nat:=t.map Int.toNat
def mV(a:List (List Nat))(k:Nat)(t:List Int):Int:=if t.length<=k then cnt a (sK t) (k-t.length)else 0
theorem qi{χ:List Int->Int}(h:∀p∈c,a p.1=χ p.1):wN a c=wN χ c:=bG λp hp=>by rw[h p hp]
theorem lO{t:List Int}(h:cR t)(c:Nat):c∈sK t↔(c:Int)∈t:=by
 unfold sK;rw[Md]
 constructor
 .rintro⟨x,a,rfl⟩
  have:=h.2 x a;rwa[Int.toNat_of_nonneg this.1]
 .exact λhc=>⟨_,hc,Nq c⟩
theorem A6(m:∀c∈r,c<8)(k:Nat){t:List Int}(h:cR t):mV f k t+Jk (mV f k) (r.map λc=>((c:Nat):Int)) t=mV (r::f) k t:=by
 have ct:∀c:Nat,t.contains c=(sK t).contains c:=λc=>by rw[NU,NZ,NZ];exact(lO h c).symm
 have l:∀c,(eU t c).length=t.length+1:=λc=>by rw[(gY t c).length_eq,Mq]
 unfold Jk;rw[yS];have e:∀c∈r,(if t.contains (c:Int)then 0 else mV f k (eU t (c:Int)))=if !(sK t).contains c then(if t.length+1<=k then cnt f (c::sK t) (k-(t.length+1))else 0)else 0:=λc hc=>by
  rw[ct c];cases o:(sK t).contains c with
  |true=>rfl|false =>
   simp only[OZ,Om,Bool.not_false,PN];unfold mV;rw[l]
   split
   .refine cD f _ λr' _ d _=> ?_
    rw[NU,NZ,NZ,lO (sO h (show(0:Int)<=(c:Int)/\(c:Int)<8 from⟨by omega,by have:=m c hc;omega⟩) (λz=>by have:=(NZ).mpr z;rw[ct c,o]at this;cases this)),(gY t _).mem_iff,Ml,Ml,lO h]
    constructor
    .rintro(z|z)
     .exact .inl (by omega)
     .exact .inr z
    .rintro(z|z)
     .exact .inl (by omega)
     .exact .inr z
   .rfl
 rw[bG e,DY];unfold mV
 by_cases g:t.length+1<=k
 .obtain⟨j,i⟩:∃j,k-t.length=j+1:=⟨k-t.length-1,by omega⟩
  simp only[Ma g];rw[Ma (by omega),Ma (by omega),i,cnt,show k-(t.length+1)=j by omega]
 .simp only[MY g]
  rw[yR λ_ _=>rfl,Int.add_zero]
  by_cases b:t.length<=k
  .rw[Ma b,Ma b,show k-t.length=0 by omega,ao,ao]
  .rw[MY b,MY b]
theorem gT(a:List (List Int))(B:List Int):fR (a++[B])=nu B (fR a):=by unfold fR;rw[Ox];rfl
def jd(r:List Nat):List Int:=r.map λc=>((c:Nat):Int)
theorem rK:∀(rows:List (List Nat)),iu rows->bU (fR (rows.map jd)):=by intro rows;refine dF (P:=λrows=>iu rows->bU (fR (rows.map jd))) (λ_=>EH) (λl r ih h=> ?_) rows;rw[Mr,Mm,OS,gT];refine BR (λc hc=> ?_) (ih λr' hr' =>h r' (N6 _ hr'));obtain⟨d,hd,rfl⟩:=Md.mp hc;have:=h r (by simp) d hd;omega
theorem Dq(k:Nat):∀(rows aP:List (List Nat)),iu rows->iu aP->wN (mV aP k) (fR (rows.map jd))=cnt (rows++aP) [] k:=by
 intro rows;refine dF (P:=λrows=>∀aP,iu rows->iu aP->wN (mV aP k) (fR (rows.map jd))=cnt (rows++aP) [] k) (λaP _ _=> ?_) (λl r ih aP h h' => ?_) rows
 .show wN _ [([],1)]=_
  unfold wN mV;rw[aU,cG];simp[sK]
 .have hl:=λr' hr' =>h r' (N6 _ hr')
  have hr:=h r (by simp);have ok:=rK l hl;rw[Mr,Mm,OS,gT,EV _ (λc hc=>by obtain⟨d,hd,rfl⟩:=Md.mp hc;have:=hr d hd;omega) ok]
  rw[qi λp hp=>A6 hr k (ok.2 _ (Md.mpr ⟨p,hp,rfl⟩)),ih (r::aP) hl λr' hr' =>by
   rcases Ml.mp hr' with rfl|hr'
   .exact hr
   .exact h' r' hr',Ny]
  rfl
theorem jR(a:List (List Nat))(h:iu a)(k:Nat):wN (λt=>if t.length=k then 1 else 0) (fR (a.map jd))=cnt a [] k:=by
 have:=Dq k a [] h (λr hr=>nomatch hr);rw[NP]at this;rw[<- this];refine qi λp _=> ?_;unfold mV
 by_cases e:p.1.length=k
 .rw[Ma e,Ma (by omega),show k-p.1.length=0 by omega,ao]
 .rw[MY e]
  split
  .obtain⟨j,b⟩:∃j,k-p.1.length=j+1:=⟨k-p.1.length-1,by omega⟩
   rw[b];rfl
  .rfl
def gr:List Int->List (List Int)
 |[]=>[[]]|c::r=>gr r++(gr r).map (c::·)
theorem sI:∀r:List Int,[]∈gr r
 |[]=>by simp[gr]|c::r=>N6 _ (sI r)
theorem lL:∀{r k:List Int},r.Pairwise (·<·)->k.Pairwise (·<·)->(∀x∈k,x∈r)->k∈gr r
 |r,[],_,_,_=>sI r|[],a::k,_,_,h=>by have:=h a MX;cases this|c::r,a::k,hr,hk,h=>by
  rw[OH]at hr hk;rw[gr,M7]
  by_cases e:a=c
  .refine .inr (Md.mpr ⟨k,lL hr.2 hk.2 λx hx=> ?_,by rw[e]⟩)
   have:=hk.1 x hx
   rcases Ml.mp (h x (MW _ hx))with z|z
   .omega
   .exact z
  .have b:=hr.1 a ((Ml.mp (h a MX)).resolve_left e);refine .inl (lL hr.2 (OH.mpr hk) λx hx=> ?_)
   rcases Ml.mp (h x hx)with z|z
   .rcases Ml.mp hx with y|y
    .omega
    .have:=hk.1 x y
     omega
   .exact z
def xN(k:List Int):Int:=reduceHash (Builtin.Tuple.tupleHashOf (k.map hashInt))
theorem uf:((gr [0,1,2,3,4,5,6,7]).map xN).Nodup:=by decide +kernel
theorem yo{d g:Type}{f:d->g}{l:List d}(h:(l.map f).Nodup):∀x∈l,∀y∈l,f x=f y->x=y:=by
 induction l with
 |nil=>intro x b;cases b|cons a l i =>
  rw[Mm,M9]at h;intro x b y c e;rw[Ml]at b c
  rcases b with b|b<;>rcases c with c|c
  .rw[b,c]
  .exact absurd (Md.mpr ⟨y,c,by rw[<- e,b]⟩) h.1
  .exact absurd (Md.mpr ⟨x,b,by rw[e,c]⟩) h.1
  .exact i h.2 x b y c e
theorem lZ{k:List Int}(h:cR k):k∈gr [0,1,2,3,4,5,6,7]:=by
 refine lL (by decide) h.1 λx hx=> ?_;have:=h.2 x hx;have:x=0\/x=1\/x=2\/x=3\/x=4\/x=5\/x=6\/x=7:=by omega
 simpa using this
def bY(c:bM):List (List L2.ag×V):=c.map λp=>(p.1.map Sum.inl,V.int p.2)
theorem Cv(P:Program)(w:World)(h:bU c):L2.Apart P w ((bY c).map (·.1)):=by
 unfold L2.Apart bY;rw[M4,M4];have e:((tupleKeyHash (aW P w)∘λx:List L2.ag×V=>x.1)∘λp:List Int×Int=>(p.1.map Sum.inl,V.int p.2))=λp=>xN p.1:=by
  funext p
  show reduceHash (Builtin.Tuple.tupleHashOf ((p.1.map Sum.inl).map (aW P w).hash))=_;rw[M4];rfl
 rw[e];have d:c.map (λp=>xN p.1)=(c.map (·.1)).map xN:=by rw[M4];rfl
 rw[d];refine List.Pairwise.map _ (R:=λa b=>a≠b/\cR a/\cR b) (λa b hab z=>hab.1 (yo uf a (lZ hab.2.1) b (lZ hab.2.2) z)) ?_;exact h.1.imp_of_mem λha hb hne=>⟨hne,h.2 _ ha,h.2 _ hb⟩
theorem iQ(c:bM):(bY c).length=c.length:=by unfold bY;rw[MT]
theorem pZ{a:List Int}:a.map (Sum.inl:Int->L2.ag)=b.map Sum.inl↔a=b:=by
 constructor
 .intro h
  induction a generalizing b with
  |nil=>cases b with
   |nil=>rfl|cons y b=>cases h
  |cons x a c=>cases b with
   |nil=>cases h|cons y b =>rw[Mm,Mm,List.cons.injEq]at h;rw[Sum.inl.inj h.1,c h.2]
 .rintro rfl
  rfl
theorem l8(c:bM)(k:List Int):fE (bY c) (k.map Sum.inl)=(fG c k).map V.int:=by
 unfold fE bY fG;rw[List.find?_map];have e:((λp:List L2.ag×V=>decide (p.1=k.map Sum.inl))∘λp:List Int×Int=>(p.1.map Sum.inl,V.int p.2))=λp=>decide (p.1=k):=by
  funext p
  simp only[Function.comp,pZ]
 rw[e];cases c.find? λp=>decide (p.1=k)<;>rfl
theorem CI(c:bM)(k:List Int)(v:Int):dv (bY c) (k.map Sum.inl) (V.int v)=bY (putN c k v):=by
 unfold dv putN;have a:((bY c).any λkv=>decide (kv.1=k.map Sum.inl))=(c.any λp=>decide (p.1=k)):=by
  unfold bY;rw[List.any_map]
  congr 1
  funext p
  simp only[Function.comp,pZ]
 rw[a]
 split
 .unfold bY
  rw[M4,M4];refine NO λp _=> ?_;simp only[Function.comp,pZ]
  split<;>rfl
 .unfold bY
  rw[Mr];rfl
theorem xX{j:Nat}{k:List L2.ag}(h:(bY c)[j]? =some (k,x)):∃t n,c[j]? =some (t,n)/\k=t.map Sum.inl/\x=.int n:=by
 unfold bY at h;rw[Mp]at h;cases e:c[j]? with
 |none=>rw[e]at h;cases h|some p =>rw[e]at h;have h:=Mx h;rw[Prod.mk.injEq]at h;exact⟨p.1,p.2,rfl,h.1.symm,h.2.symm⟩
theorem lb(t:List Int):(t.map (Sum.inl:Int->L2.ag)).map kV=t.map V.int:=by rw[M4];rfl
theorem lI{α:Type}[DecidableEq α]:∀{l L:List α},l.Nodup->(∀x∈l,x∈L)->l.length<=L.length
 |[],L,_,_=>M6 _|a::l,L,h,hs=>by rw[M9]at h;have ha:=hs a MX;have:=lI h.2 λx hx=>(List.mem_erase_of_ne (λz:x=a=>h.1 (by rwa[<- z]))).mpr (hs x (MW _ hx));rw[List.length_erase_of_mem ha]at this;have:=List.length_pos_of_mem ha;rw[Mq];omega
theorem bU.few(h:bU c):c.length<=256:=by have:=lI (h.1) (λk hk=>lZ (h.2 k hk));rw[MT]at this;exact M8 this (by decide)
theorem cR.len{k:List Int}(h:cR k):k.length<=8:=by
 refine lI (L:=[0,1,2,3,4,5,6,7]) (h.1.imp λh=>Int.ne_of_lt h) λx hx=> ?_;have:=h.2 x hx;have:x=0\/x=1\/x=2\/x=3\/x=4\/x=5\/x=6\/x=7:=by omega
 simpa using this
theorem tG{t:List Int}:∀{j:Nat},(c.map (·.1)).Nodup->c[j]? =some (t,n)->fG c t=some n:=by
 induction c with
 |nil=>intro j _ h;simp at h|cons p c ih =>
  intro j nd h;rw[Mm,M9]at nd;unfold fG;cases j with
  |zero =>simp at h;subst h;rw[List.find?_cons_of_pos (by simp)];rfl
  |succ j =>
   rw[List.find?_cons_of_neg (by simpa using λz:p.1=t=>nd.1 (z▸Md.mpr ⟨_,Mu h,rfl⟩))];exact ih nd.2 h
def kh(a:List Str):bM:=fR ((a.map aT).map jd)
def gf(c:bM):List Int:=(List.range 10).map λj=>wN (λt=>if t.length=j then 1 else 0) c
def jw:List PV->Option PV
 |[.tup ls]=>(gG ls).bind λrows=>if rows.length<=8/\(rows.all λz=>decide (z.length<=8))=true then some (.lst ((eK (gf (kh rows))).map PV.int))else none|_=>none
def fx(x:Int):Nat->Int
 |0=>1|m+1=>fx x m*(x-m)
end IR
namespace IR
end IR
namespace IR
end IR
namespace IR
open PySem L2
end IR
namespace IR
open PySem
end IR
namespace L2
open SQ
set_option tactic.hygienic false
theorem EO(b:m<256)(a:u<8):v∈lst (put m u)↔v∈lst m\/v=u:=by
 by_cases h:u∈lst m
 .rw[Au h]
  exact⟨.inl,λz=>z.elim id λe=>e▸h⟩
 .obtain⟨-,-,e,-,-⟩:=lY b a h true
  rw[e,M7,Ml];have:v∈lst m↔v∈(lst m).take (kL m u)\/v∈(lst m).drop (kL m u):=by rw[<- M7,List.take_append_drop]
  rw[this]
  constructor
  .rintro(z|z|z)
   .exact .inl (.inl z)
   .exact .inr z
   .exact .inl (.inr z)
  .rintro((z|z)|z)
   .exact .inl z
   .exact .inr (.inr z)
   .exact .inr (.inl z)
theorem lM{f:Nat->Nat}{v:Nat}:∀{k i m:Nat},(∀j,j<k->f (i+j)<8)->m<256->(v∈lst (oz f k i m)↔v∈lst m\/∃j,j<k/\f (i+j)=v)
 |0,i,m,_,_=>⟨.inl,λz=>z.elim id λ⟨j,h,_⟩=>absurd h (Nat.not_lt_zero _)⟩|k+1,i,m,hf,hm=>by
  unfold oz;have a:=hf 0 (by omega);rw[Nat.add_zero]at a;rw[lM (λj b=>by rw[show i+1+j=i+(j+1)by omega];exact hf (j+1) (by omega)) (Eb hm a true).2,EO hm a]
  constructor
  .rintro((z|z)|⟨j,b,e⟩)
   .exact .inl z
   .exact .inr ⟨0,by omega,z.symm⟩
   .exact .inr ⟨j+1,by omega,by rw[<- e];congr 1;omega⟩
  .rintro(z|⟨j,b,e⟩)
   .exact .inl (.inl z)
   .cases j with
    |zero=>exact .inl (.inr e.symm)|succ j=>exact .inr ⟨j,by omega,by rw[<- e];congr 1;omega⟩
theorem lN(h:∀n∈b,0<=n/\n<8):n∈cA b↔n∈b:=by
  unfold cA maskOf;rw[Md];have c :∀j,j<b.length->b.getD j 0∈b:=λj a=>by rw[Mf,Mk a];exact OI a
  have f:∀j,j<b.length->(b.getD (0+j) 0).toNat<8:=λj a=>by rw[O7];have:=h _ (c j a);omega
  constructor
  . rintro⟨v,g,rfl⟩
    rw[lM f (by omega)]at g
    rcases g with z|⟨j,a,e⟩
    . exact absurd z (by have:lst 0=[]:=by decide +kernel
                         rw[this];simp)
    . rw[O7]at e
      have:=h _ (c j a);rw[<- e,Int.toNat_of_nonneg this.1];exact c j a
  . intro d
    obtain⟨j,a,e⟩:=List.getElem_of_mem d;refine⟨n.toNat,(lM f (by omega)).mpr (.inr ⟨j,a,?_⟩),Int.toNat_of_nonneg (h n d).1⟩;rw[O7,Mf,Mk a,e];rfl
theorem pG(a:List Int):(cA a).Pairwise (·<·):=by unfold cA;rw[Oh];exact(lT _).imp λz=>by omega
theorem gX(a:List Int):(cA a).Nodup:=(pG a).imp λh=>by omega
theorem BF(h:∀n∈a,0<=n/\n<8)(s:a.Pairwise (·<·)):cA a=a:=by
 have c:a.Nodup:=s.imp λh=>by omega
 exact ((List.perm_ext_iff_of_nodup (gX a) c).mpr λn=>lN h).eq_of_pairwise (λa b _ _ h1 h2=>by omega) (pG a) s
theorem GI{b:Type}[DecidableEq b]:∀{c:List b},¬c.Nodup->∃a:List b,a.length<c.length/\∀x∈c,x∈a
 |[],h=>absurd List.nodup_nil h|x::r,h=>by
  by_cases d:x∈r
  .exact⟨r,by simp,λy hy=>by rcases Ml.mp hy with z|z;exact z▸d;exact z⟩
  .have:¬r.Nodup:=λz=>h (M9.mpr ⟨d,z⟩)
   obtain⟨a,f,e⟩:=GI this;refine⟨x::a,by simpa using f,λy hy=> ?_⟩
   rcases Ml.mp hy with z|z
   .exact z▸MX
   .exact MW _ (e y z)
theorem sE(h:∀n∈a,0<=n/\n<8):(cA a).length=a.length↔a.Nodup:=by
 constructor
 .intro e
  apply Nw
  intro b;obtain⟨d,f,c⟩:=GI b;have:=List.Nodup.length_le_of_subset (gX a) (λx hx=>c x ((lN h).mp hx));omega
 .intro b
  exact((List.perm_ext_iff_of_nodup (gX a) b).mpr λn=>lN h).length_eq
theorem nZ(h:∀n∈a,0<=n/\n<8):a=cA a↔a.Pairwise (·<·) := ⟨λe=>by rw[e];exact pG a,λs=>(BF h s).symm⟩
end L2
namespace OD
section
variable{α:Type}[DecidableEq α](ok:List α->α->Bool)
def cnt:List α->List α->Nat->Nat
 |_,_,0=>1|_,[],_+1=>0|b,c::L,m+1=>(if ok b c then cnt (b++[c]) L m else 0)+cnt b L (m+1)
inductive Lg:List α->List α->List α->Prop
 | nil {b L}:Lg b L []
 | take {b c L p}:ok b c=true->Lg (b++[c]) L p->Lg b (c::L) (c::p)
 | skip {b c L p}:Lg b L p->Lg b (c::L) p
def DA:List α->List α->List α->Nat
 |_,_,[]=>0|_,[],_::_=>0|b,c::L,x::p=>if x=c then DA (b++[c]) L p else(if ok b c then cnt ok (b++[c]) L p.length else 0)+DA b L (x::p)
def AA:List α->List α->Nat->Nat->List α
 |_,_,0,_=>[]|_,[],_+1,_=>[]|b,c::L,m+1,n=>if ok b c then(if n<cnt ok (b++[c]) L m then c::AA (b++[c]) L m n else AA b L (m+1) (n-cnt ok (b++[c]) L m))else AA b L (m+1) n
variable{ok}
set_option tactic.hygienic false
theorem ao(b L:List α):cnt ok b L 0=1:=by cases L<;>rfl
theorem o4(b L:List α):DA ok b L []=0:=by cases L<;>rfl
theorem eJ(b L:List α)(n:Nat):AA ok b L 0 n=[]:=by cases L<;>rfl
theorem Lg.sub(h:Lg ok b L p):∀x∈p,x∈L:=by
 induction h with
 |nil=>intro x a;cases a|take _ _ c =>
  intro x a
  rcases Ml.mp a with rfl|a
  .exact MX
  .exact MW _ (c x a)
 |skip _ c=>exact λx a=>MW _ (c x a)
theorem Lg.at_nil(h:Lg ok b [] p):p=[]:=by cases h;rfl
theorem Lg.at_take(e:c∉L)(h:Lg ok b (c::L) (c::p)):ok b c=true/\Lg ok (b++[c]) L p:=by
 cases h with
 |take d a=>exact⟨d,a⟩|skip h=>exact absurd (h.sub c MX) e
theorem Lg.at_skip(a:x≠c)(h:Lg ok b (c::L) (x::p)):Lg ok b L (x::p):=by
 cases h with
 |take e d=>exact absurd rfl a|skip h=>exact h
theorem k7:∀(L b p:List α),L.Nodup->Lg ok b L p->DA ok b L p<cnt ok b L p.length
 |L,b,[],_,_=>by rw[o4,Of,ao];decide|[],b,x::p,_,h=>by cases h.at_nil|c::L,b,x::p,hn,h=>by
  obtain⟨g,a⟩:=M9.mp hn;rw[DA,Mq,cnt]
  by_cases e:x=c
  .subst e
   obtain⟨f,d⟩:=h.at_take g;have:=k7 L (b++[x]) p a d;omega
  .rw[MY e]
   have:=k7 L b (x::p) a (h.at_skip e);rw[Mq]at this;omega
theorem oZ:∀(L b p:List α),L.Nodup->Lg ok b L p->AA ok b L p.length (DA ok b L p)=p
 |L,b,[],_,_=>by rw[Of,eJ]|[],b,x::p,_,h=>by cases h.at_nil|c::L,b,x::p,hn,h=>by
  obtain⟨i,a⟩:=M9.mp hn;rw[DA,Mq,AA]
  by_cases e:x=c
  .subst e
   obtain⟨g,d⟩:=h.at_take i;rw[Ma rfl,Ma g,Ma (k7 L (b++[x]) p a d),oZ L (b++[x]) p a d]
  .have f:=oZ L b (x::p) a (h.at_skip e);rw[Mq]at f;rw[MY e]
   by_cases o:ok b c=true;rw[Ma o,Ma o,MY (by omega),Nat.add_sub_cancel_left,f]
   .rw[MY o,MY o,O7,f]
variable(lt:α->α->Bool)
variable{lt}
theorem mG:∀(M L b:List α)(m:Nat),(∀c∈M,ok b c=false)->cnt ok b (M++L) m=cnt ok b L m
 |M,L,b,0,_=>by rw[ao,ao]|[],L,b,m+1,_=>rfl|c::M,L,b,m+1,h=>by show cnt ok b (c::(M++L)) (m+1)=_;rw[cnt,MY (by rw[h c MX];decide),O7,mG M L b (m+1) λx hx=>h x (MW _ hx)]
end
end OD
namespace OD
section
variable{α:Type}[DecidableEq α]{ok:List α->α->Bool}{lt:α->α->Bool}
set_option tactic.hygienic false
theorem Lg.more(h:Lg ok b L p):Lg ok b (L++[c]) p:=by
 induction h with
 |nil=>exact .nil|take o _ a=>exact .take o a|skip _ a=>exact .skip a
theorem Lg.snoc(h:Lg ok b L p):ok (b++p) c=true->Lg ok b (L++[c]) (p++[c]):=by
 induction h with
 | @nil b L =>
  intro o;rw[NP]at o
  induction L with
  |nil=>exact .take o .nil|cons x L a=>exact .skip a
 | @take b d L p e _ a =>intro o;refine .take e (a ?_);rwa[Ny]
 |skip _ a=>exact λo=>.skip (a o)
def NB(e:List α->α->Bool)(W:List α)(a:Nat)(f:List α->Int):Prop:=∀d c L b,W=d++c::L->Lg e [] d b->e b c=true->f (b++[c])=if b.length<a then((cnt e (b++[c]) L (a-b.length-1):Nat):Int)else 0
def turn(b:List α->α->Bool)(a:List α->Int)(s:List α×Int)(c:α):List α×Int :=
 if b s.1 c then(if s.2<a (s.1++[c])then(s.1++[c],s.2)else(s.1,s.2-a (s.1++[c])))else s
theorem qp{W:List α}{a:Nat}{h:List α->Int}(H:NB ok W a h):∀(L d b:List α)(n:Nat),W=d++L->Lg ok [] d b->b.length<=a->n<cnt ok b L (a-b.length)->(L.foldl (turn ok h) (b,(n:Int))).1=b++AA ok b L (a-b.length) n
 |[],d,b,n,hW,hb,hl,hn=>by
  cases e:a-b.length with
  |zero=>rw[eJ,NP];rfl|succ m=>rw[e,cnt]at hn;omega
 |c::L,d,b,n,hW,hb,hl,hn=>by
  have f:W=(d++[c])++L:=by rw[hW,Ny];rfl
  rw[OO,turn]
  by_cases o:ok b c=true
  .rw[Ma o]
   rw[H d c L b hW hb o];cases e:a-b.length with
   |zero =>
    rw[MY (show¬b.length<a by omega),MY (by omega),eJ,NP]
    have g:=qp H L (d++[c]) b n f hb.more hl (by rwa[e,ao]at hn ⊢)
    rwa[e,eJ,NP]at g
   |succ m =>
    rw[Ma (show b.length<a by omega),Nat.add_sub_cancel,AA,Ma o];rw[e,cnt,Ma o]at hn
    by_cases q:n<cnt ok (b++[c]) L m
    .have g:=qp H L (d++[c]) (b++[c]) n f (hb.snoc o) (by rw[Mj];simp;omega) (by
      rw[Mj];show n<cnt ok (b++[c]) L (a-(b.length+1));rwa[show a-(b.length+1)=m by omega])
     rw[Ma (by omega),Ma q,g,Mj];show b++[c]++AA ok (b++[c]) L (a-(b.length+1)) n=_;rw[show a-(b.length+1)=m by omega,Ny];rfl
    .rw[MY (by omega),MY q,show(n:Int)-((cnt ok (b++[c]) L m:Nat):Int)=((n-cnt ok (b++[c]) L m:Nat):Int)by omega,qp H L (d++[c]) b (n-cnt ok (b++[c]) L m) f hb.more hl (by rw[e];omega),e]
  .rw[MY o]
   have i:n<cnt ok b L (a-b.length):=by
    cases e:a-b.length with
    |zero=>rw[e,ao]at hn;rw[ao];exact hn|succ m=>rwa[e,cnt,MY o,O7]at hn
   rw[qp H L (d++[c]) b n f hb.more hl i];cases e:a-b.length with
   |zero=>rw[eJ,eJ]|succ m=>rw[AA,MY o]
def mU(d:List α->α->Bool)(a:α->α->Bool)(b:List α->Int)(P:List α)(c:α):Int :=
 if c∈P then 0 else if d (P.filter λx=>a x c) c then b ((P.filter λx=>a x c)++[c])else 0
def sumZ(f:α->Int):List α->Int
 |[]=>0|c::L=>f c+sumZ f L
theorem kN{W P:List α}{nb:List α->Int}(hn:W.Nodup)(hs:W.Pairwise λa c=>lt a c=true/\lt c a=false)(H:NB ok W P.length nb):∀(L pre b p:List α),W=pre++L->P=b++p->Lg ok [] pre b->Lg ok b L p->sumZ (mU ok lt nb P) L=((DA ok b L p:Nat):Int)
 |[],pre,b,p,_,_,_,hp=>by rw[hp.at_nil];rfl
 |c::L,pre,b,p,hW,hP,hb,hp=>by
  have hW2:W=(pre++[c])++L:=by rw[hW,Ny];rfl
  have cL:c∉L:=by rw[hW]at hn;exact(M9.mp (Nk.mp hn).2.1).1
  have cpre:c∉pre:=by rw[hW]at hn;exact λz=>(Nk.mp hn).2.2 c z c MX rfl
  have sb:=λx hx=>by rw[hW]at hs;exact((OL.mp hs).2.2 x (hb.sub x hx) c MX).1
  have sL:=λx hx=>by rw[hW]at hs;exact((OH.mp (OL.mp hs).2.1).1 x hx).2
  have skip:c∉p->Lg ok b L p->mU ok lt nb P c=if ok b c then(if 0<p.length then((cnt ok (b++[c]) L (p.length-1):Nat):Int)else 0)else 0:=λcp hp2=>by
   have cP:c∉P:=by rw[hP,M7];exact λz=>z.elim (λz=>cpre (hb.sub c z)) cp
   have f:(P.filter λx=>lt x c)=b:=by rw[hP,OY,List.filter_eq_self.mpr sb,List.filter_eq_nil_iff.mpr (λx hx=>by rw[sL x (hp2.sub x hx)];decide),NP]
   have lP:P.length=b.length+p.length:=by rw[hP,Mj]
   unfold mU;rw[MY cP,f]
   by_cases o:ok b c=true
   .rw[Ma o,Ma o,H pre c L b hW hb o,lP,show b.length+p.length-b.length-1=p.length-1 by omega]
    by_cases z:0<p.length;rw[Ma z,Ma (by omega)]
    .rw[MY z,MY (by omega)]
   .rw[MY o,MY o]
  cases p with
  |nil =>
   rw[sumZ,skip (by simp) .nil,kN hn hs H L (pre++[c]) b [] hW2 hP hb.more .nil,o4,o4]
   split<;>rfl
  |cons x p =>
   rw[sumZ,DA]
   by_cases e:x=c
   .subst e
    obtain⟨o,hp2⟩:=hp.at_take cL;have:mU ok lt nb P x=0:=by unfold mU;rw[Ma (by rw[hP];simp)]
    rw[this,Ma rfl,O9,kN hn hs H L (pre++[x]) (b++[x]) p hW2 (by rw[hP,Ny];rfl) (hb.snoc o) hp2]
   .have hp2:=hp.at_skip e
    rw[MY e,skip (λz=>cL (hp2.sub c z)) hp2,kN hn hs H L (pre++[c]) b (x::p) hW2 hP hb.more hp2,Mq,Ma (Nat.succ_pos _),Nat.add_sub_cancel]
    split<;>omega
end
end OD
namespace IR
open PySem
def tJ(T:Nat)(m:Int):Int:=if Builtin.bitAnd m (T:Int)=0 then 1 else 0
set_option tactic.hygienic false
theorem pj(T m:Nat):tJ T (m:Int)=if m &&& T=0 then 1 else 0:=by
 unfold tJ;rw[uH]
 by_cases h:m &&& T=0;rw[Ma h,Ma (by omega)]
 .rw[MY h,MY (by omega)]
theorem wq:a ||| b=0↔a=0/\b=0:=by
 constructor
 .intro h
  constructor
  .refine Nat.eq_of_testBit_eq λi=> ?_
   have:=NG (λx=>Nat.testBit x i) h;simp only[Nat.testBit_or,Nat.zero_testBit,Bool.or_eq_false_iff]at this ⊢;exact this.1
  .refine Nat.eq_of_testBit_eq λi=> ?_
   have:=NG (λx=>Nat.testBit x i) h;simp only[Nat.testBit_or,Nat.zero_testBit,Bool.or_eq_false_iff]at this ⊢;exact this.2
 .rintro⟨rfl,rfl⟩
  rfl
theorem B2(T m c:Nat):(if Builtin.bitAnd (m:Int) ((2^c:Nat):Int)=0 then tJ T (Builtin.bitOr (m:Int) ((2^c:Nat):Int))else 0)=if T.testBit c then 0 else tJ (T ||| 2^c) (m:Int):=by
 rw[uH,xo,pj,pj,Nat.and_or_distrib_right,Nat.and_or_distrib_left];have d:(((m &&& 2^c:Nat):Int)=0)↔m &&& 2^c=0:=by omega
 have e:(2^c &&& T=0)↔T.testBit c=false:=by rw[Nat.and_comm];exact Fk T c
 by_cases a:m &&& 2^c=0
 .rw[Ma (d.mpr a)]
  cases b:T.testBit c with
  |true=>rw[Ma rfl,MY (λz=>by have:=e.mp (wq.mp z).2;rw[b]at this;cases this)]|false =>rw[MY MZ];rw[e.mpr b,a]
 .rw[MY (λz=>a (d.mp z)),MY (λz=>a (wq.mp z).2)]
  split<;>rfl
theorem wT(T m:Nat):∀{r:List Nat},(∀c∈r,c<8)->Sb (j8 r) (tJ T) (m:Int)=bR (r.filter λc=> !(mF T).contains c) λc=>tJ (T ||| 2^c) (m:Int)
 |[],_=>rfl|c::r,h=>by
  have a:Sb (j8 (c::r)) (tJ T) (m:Int)=(if Builtin.bitAnd (m:Int) ((2^c:Nat):Int)=0 then tJ T (Builtin.bitOr (m:Int) ((2^c:Nat):Int))else 0)+Sb (j8 r) (tJ T) (m:Int):=by unfold Sb j8;rw[Mm,aU]
  rw[a,B2,wT T m λd hd=>h d (MW _ hd),N7,gA (h c MX)];cases T.testBit c with
  |true=>simp|false=>simp[aU]
theorem qe{a:Type}(f:a->Int->Int)(t:au):∀l:List a,dM (λm=>bR l λc=>f c m) t=bR l λc=>dM (f c) t
 |[]=>qg t|c::l=>by rw[aU,<-qe f t l,<-wG];exact jJ λp _=>aU c l λc=>f c p.1
def wL:List (List Nat)->List au
 |[]=>[[(0,1)]]|r::rows=>wl (wL rows) (j8 r) (wL rows).length
theorem tE:bJ [(0,1)]:=⟨by simp,λp hp=>by rw[My.mp hp];exact⟨⟨0,rfl,by decide⟩,by decide⟩⟩
theorem qv:∀{rows:List (List Nat)},iu rows->(wL rows).length=rows.length+1/\∀c∈wL rows,bJ c
 |[],_=>⟨rfl,λc hc=>by rw[My.mp hc];exact tE⟩
 |r::rows,h=>by obtain⟨a,b⟩:=qv λr' hr=>h r' (MW _ hr);refine⟨?_,oX (mO (h r MX)) b _⟩;show(wl _ _ _).length=_;rw[kW,a];rfl
theorem ja{a:List au}(h:∀c∈a,bJ c)(j:Nat):bJ (a.getD j []):=by
 rw[Mf];cases e:a[j]? with
 |none=>exact iK|some c=>exact h c (Mu e)
set_option tactic.hygienic true in
theorem ll(a:List au)(j:Nat):(a++[[]]).getD j []=a.getD j []:=by
 rw[Mf,Mf,List.getElem?_append]
 split;rfl
 .rename_i h
  rw[Ng (l:=a) (by omega)];cases e:j-a.length with
  |zero=>rfl|succ n=>rfl
theorem CT(a:d<8):(mF (T ||| 2^c)).contains d=(c::mF T).contains d:=by
 rw[gA a,Ot,gA a,Nat.testBit_or,Nat.testBit_two_pow,Bool.or_comm]
 congr 1
 by_cases e:c=d;subst e;simp
 .have:¬d=c:=λz=>e z.symm
  simp[e,this]
theorem jP{a:Type}:∀l:List a,bR l (λ_=>0)=0
 |[]=>rfl|x::l=>by rw[aU,jP l];rfl
theorem fX:∀(a:List (List Nat))(T:List Nat)(k:Nat),a.length<k->cnt a T k=0
 |[],T,0,h=>by cases h|[],T,k+1,_=>rfl|r::a,T,0,h=>by cases h|r::a,T,k+1,h=>by rw[Mq]at h;rw[cnt,fX a T (k+1) (by omega),bG (g:=λ_=>0) λc _=>fX a (c::T) k (by omega),jP];rfl
theorem wK:∀{rows:List (List Nat)},iu rows->∀T s:Nat,dM (tJ T) ((wL rows).getD s [])=cnt rows (mF T) s
 |[],_,T,0=>by show 1*tJ T ((0:Nat):Int)+0=1;rw[pj,Nat.zero_and];rfl
 |[],_,T,s+1=>rfl|r::rows,h,T,s=>by
  have b:=h r MX;have a:=λr' b=>h r' (MW _ b);obtain⟨l,i⟩:=qv a;have f:=λT s=>wK a T s;have e:(wL (r::rows)).getD s []=((wL (r::rows))[s]?).getD []:=Mf ..;rw[e,show wL (r::rows)=wl (wL rows) (j8 r) (wL rows).length from rfl,uW _ _ _ _ (Mc _)];cases s with
  |zero =>rw[Ma (.inl rfl),<-Mf,ll,f,cnt]
  |succ s =>
   rw[cnt]
   by_cases q:(wL rows).length<s+1
   .rw[Ma (.inr q),<-Mf,ll,f]
    rw[bG λc _=>fX rows _ _ (by omega),jP];omega
   .rw[MY (by omega),Option.getD_some,ll,wH _ (mO b) (ja i _) (ja i _),f,Nat.add_sub_cancel]
    refine NG (_+·) ?_;rw[jJ λp hp=> ?_,qe]
    .refine bG λc _=> ?_
     rw[f];exact cD rows s λr' hr' d hd=>CT (a r' hr' d hd)
    .obtain⟨⟨m,j,_⟩,_⟩:=(ja i s).2 p hp
     rw[j];exact wT T m b
def dW(b:List (Int×Int))(c:Int×Int):Bool:=(b.all λx=>decide (x.1<c.1))&&(b.all λx=>decide (x.2≠c.2))
def rM(r:Int)(a:List Nat):List (Int×Int):=a.map λc:Nat=>(r,(c:Int))
def ak:Int->List (List Nat)->List (Int×Int)
 |_,[]=>[]|r,cs::aP=>rM r cs++ak (r+1) aP
def cO(b:List (Int×Int)):List Nat:=b.map λx=>x.2.toNat
theorem CU{r:Int}{c:Nat}(d:∀x∈b,x.1<r/\0<=x.2):dW b (r,(c:Int))= !(cO b).contains c:=by
 unfold dW cO;rw[Mn.mpr λx a=>Mv (d x a).1,Bool.true_and,NU,Mn,ON,<-PB,NZ,Md]
 constructor
 .rintro h ⟨x,a,rfl⟩
  have g:=(d x a).2
  apply (NA (h x a))
  omega
 .intro h x a
  refine Mv λz=>h ⟨x,a,?_⟩;omega
theorem wW{b:List (Int×Int)}{r:Int}(d:∀x∈b,x.1<r/\0<=x.2)(L:List (Int×Int))(m:Nat):∀a:List Nat,((OD.cnt dW b (rM r a++L) (m+1):Nat):Int)=((OD.cnt dW b L (m+1):Nat):Int)+bR (a.filter λc=> !(cO b).contains c) λc=>((OD.cnt dW (b++[(r,(c:Int))]) L m:Nat):Int)
 |[]=>by rw[List.filter_nil,cG];show((OD.cnt dW b L (m+1):Nat):Int)=_;omega
 |c::a=>by
  show((OD.cnt dW b ((r,(c:Int))::(rM r a++L)) (m+1):Nat):Int)=_;rw[OD.cnt,Int.natCast_add,wW d L m a,N7,CU d];cases(cO b).contains c with
  |true =>simp
  |false =>
   rw[Bool.not_false,Ma rfl,Ma rfl,aU,OD.mG (rM r a) L (b++[(r,(c:Int))]) m λd hd=> ?_]
   .omega
   .obtain⟨e,_,rfl⟩:=Md.mp hd
    unfold dW;have:((b++[(r,(c:Int))]).all λx=>decide (x.1<r))=false:=by rw[List.all_append];simp
    rw[this];rfl
theorem gB:∀(a:List (List Nat))(r:Int)(b:List (Int×Int))(m:Nat),(∀x∈b,x.1<r/\0<=x.2)->((OD.cnt dW b (ak r a) m:Nat):Int)=cnt a (cO b) m
 |a,r,b,0,_=>by rw[OD.ao,ao];rfl|[],r,b,m+1,_=>rfl|cs::a,r,b,m+1,hb=>by
  rw[ak,wW hb,cnt,gB a (r+1) b (m+1) λx hx=>⟨by have:=(hb x hx).1;omega,(hb x hx).2⟩];refine NG (_+·) (bG λc _=> ?_);rw[gB a (r+1) (b++[(r,(c:Int))]) m λx hx=> ?_]
  .refine cD a m λr' _ d _=> ?_
   unfold cO;rw[Mr,NU,NZ,NZ,M7,Ml];simp[or_comm]
  .rcases M7.mp hx with z|z
   .have:=hb x z
    exact⟨by omega,this.2⟩
   .rw[My.mp z]
    exact⟨by show r<r+1;omega,by show(0:Int)<=c;omega⟩
theorem rL{cs:List Nat}(h:c∈rM r cs):c.1=r/\0<=c.2:=by obtain⟨n,_,rfl⟩:=Md.mp h;exact⟨rfl,by show(0:Int)<=n;omega⟩
theorem fZ:∀(rows:List (List Nat))(r:Int)(pre:List (Int×Int))(c:Int×Int)(L:List (Int×Int)),ak r rows=pre++c::L->∃(j:Nat)(M:List (Int×Int)),c.1=r+j/\0<=c.2/\j<rows.length/\L=M++ak (r+j+1) (rows.drop (j+1))/\∀d∈M,d.1=c.1
 |[],r,pre,c,L,h=>by have:=NG List.length h;rw[Mj,Mq]at this;exact absurd this (by show¬(0=_);omega)
 |cs::rows,r,pre,c,L,h=>by
  have next:∀pre',ak (r+1) rows=pre' ++c::L->∃(j:Nat)(M:List (Int×Int)),c.1=r+j/\0<=c.2/\j<(cs::rows).length/\L=M++ak (r+j+1) ((cs::rows).drop (j+1))/\∀d∈M,d.1=c.1:=λpre' h=>by obtain⟨j,M,h1,h2,h3,h4,h5⟩:=fZ rows (r+1) pre' c L h;refine⟨j+1,M,by omega,h2,by rw[Mq];omega,?_,h5⟩;rw[h4,List.drop_succ_cons,show r+1+j+1=r+((j+1:Nat):Int)+1 by omega]
  rcases List.append_eq_append_iff.mp h with⟨a,h1,h2⟩|⟨a,h1,h2⟩
  .exact next a h2
  .cases a with
   |nil=>exact next [] h2.symm
   |cons d a =>obtain⟨rfl,h3⟩:=List.cons.inj h2;have m:∀x∈c::a,x.1=r/\0<=x.2:=λx hx=>rL (by rw[h1];exact NY _ hx);obtain⟨m1,m2⟩:=m c MX;refine⟨0,a,by omega,m2,by rw[Mq];omega,?_,λd hd=>by rw[(m d (MW _ hd)).1,m1]⟩;rw[h3];show a++ak (r+1) rows=a++ak (r+(0:Nat)+1) rows;rw[show r+((0:Nat):Int)+1=r+1 by omega]
def cJ(b:List (Int×Int)):Nat:=match b.getLast? with
 |some c=>(c.1+1).toNat|none=>0
def pL(c:List (List Nat))(a:Nat)(b:List (Int×Int)):Int:=if b.length<=a then cnt (c.drop (cJ b)) (cO b) (a-b.length)else 0
theorem EW:∀{b L p:List (Int×Int)}{c:Int×Int},OD.Lg dW b L p->dW (b++p) c=true->∀x∈b++p,x.1<c.1:=λ{b L p c} _ o x hx=>by unfold dW at o;rw[Mb,Mn]at o;exact NA (o.1 x hx)
theorem iV{rows:List (List Nat)}{r:Int}(h:x∈ak r rows):0<=x.2/\r<=x.1:=by obtain⟨a,L,e⟩:=List.append_of_mem h;obtain⟨j,M,c,b,_⟩:=fZ rows r a x L e;exact⟨b,by omega⟩
theorem GD(f:List (List Nat))(a:Nat):OD.NB dW (ak 0 f) a (pL f a):=by
 intro g c L b i h o;obtain⟨j,M,u,l,v,p,n⟩:=fZ f 0 g c L i;have s:=λx hx=>(iV (by rw[i];exact N6 _ (h.sub x hx))).1;unfold pL;rw[Mj];show(if b.length+1<=a then _ else _)=_
 by_cases q:b.length<a
 .rw[Ma (by omega),Ma q,p,OD.mG M _ _ _ λd hd=> ?_]
  .have e:cJ (b++[c])=j+1:=by
    unfold cJ;rw[List.getLast?_concat];omega
   rw[e,gB (f.drop (j+1)) (0+j+1) (b++[c]) (a-b.length-1) λx hx=> ?_]
   .rw[show a-(b.length+[c].length)=a-b.length-1 by show a-(b.length+1)=_;omega]
   .rcases M7.mp hx with z|z
    .have:=(EW h o) x z
     exact⟨by omega,s x z⟩
    .rw[My.mp z]
     exact⟨by omega,l⟩
  .unfold dW
   have:((b++[c]).all λx=>decide (x.1<d.1))=false:=by rw[List.all_append,n d hd];simp
   rw[this];rfl
 .rw[MY (by omega),MY q]
structure DF(b:List (Int×Int)):Prop where
 rows:(b.map (·.1)).Pairwise (·<·)
 cols:(b.map (·.2)).Nodup
theorem Fh:DF []:=⟨.nil,.nil⟩
theorem EJ:dW b c=true↔∀x∈b,x.1<c.1/\x.2≠c.2:=by
 unfold dW;rw[Mb,Mn,Mn]
 constructor
 .rintro⟨e,d⟩ x a
  exact⟨NA (e x a),NA (d x a)⟩
 .intro h
  exact⟨λx a=>Mv (h x a).1,λx a=>Mv (h x a).2⟩
theorem ij:DF (b++[c])↔DF b/\dW b c=true:=by
 rw[EJ]
 constructor
 .rintro⟨f,e⟩
  rw[Mr,OL]at f;rw[Mr,Nk]at e;refine⟨⟨f.1,e.1⟩,λx a=>⟨f.2.2 x.1 (Md.mpr ⟨x,a,rfl⟩) c.1 (by simp),e.2.2 x.2 (Md.mpr ⟨x,a,rfl⟩) c.2 (by simp)⟩⟩
 .rintro⟨⟨f,e⟩,g⟩
  refine⟨?_,?_⟩
  .rw[Mr,OL]
   refine⟨f,List.pairwise_singleton _ _,λa ha d hd=> ?_⟩;obtain⟨x,a,rfl⟩:=Md.mp ha;rw[Ps,My]at hd;subst hd;exact(g x a).1
  .rw[Mr,Nk]
   refine⟨e,by simp,λa ha d hd=> ?_⟩;obtain⟨x,a,rfl⟩:=Md.mp ha;rw[Ps,My]at hd;subst hd;exact(g x a).2
theorem Fg(h:DF (b++p)):DF b:=by obtain⟨c,a⟩:=h;rw[Mr]at c a;exact⟨(OL.mp c).1,(Nk.mp a).1⟩
theorem IJ(h:OD.Lg dW b L p):DF b->DF (b++p):=by
 induction h with
 |nil =>intro a;rwa[NP]
 |take o _ c =>intro a;have:=c (ij.mpr ⟨a,o⟩);rwa[Ny]at this
 |skip _ c=>exact c
theorem v5:∀(L b p:List (Int×Int)),L.Pairwise (λa c=>a.1<=c.1)->DF (b++p)->(∀x∈p,x∈L)->OD.Lg dW b L p
 |L,b,[],_,_,_=>.nil|[],b,x::p,_,_,h=>by cases h x MX|c::L,b,x::p,hs,a,h=>by
  obtain⟨g,f⟩:=OH.mp hs;have j:=λy d=>by have:=a.rows;rw[Mr,OL,Mm]at this;exact(OH.mp this.2.1).1 y.1 (Md.mpr ⟨y,d,rfl⟩)
  by_cases e:x=c
  .subst e
   have l:DF (b++[x]++p):=by rwa[Ny]
   refine .take (ij.mp (Fg l)).2 (v5 L (b++[x]) p f l λy d=> ?_)
   rcases Ml.mp (h y (MW _ d))with z|z
   .have:=j y d
    omega
   .exact z
  .have i:=(Ml.mp (h x MX)).resolve_left e
   refine .skip (v5 L b (x::p) f a λy d=> ?_)
   rcases Ml.mp d with rfl|d
   .exact i
   .rcases Ml.mp (h y (MW _ d))with z|z
    .have m:=j y d
     have n:=g x i;omega
    .exact z
def lR(a c:Int×Int):Bool:=if a.1=c.1 then decide (a.2<c.2)else decide (a.1<c.1)
theorem Dr(r:Int):∀{b:List Nat},b.Pairwise (·<·)->(rM r b).Pairwise λa c=>lR a c=true/\lR c a=false:=λ{b} h=>by unfold rM;rw[Oh];refine h.imp λ{a c} z=> ?_;unfold lR;rw[Ma rfl,Ma rfl];exact⟨Mv (by show(a:Int)<c;omega),Mt (by show¬c<(a:Int);omega)⟩
theorem dH:∀{b:List (List Nat)}{r:Int},(∀d∈b,d.Pairwise (·<·))->(ak r b).Pairwise λa c=>lR a c=true/\lR c a=false
 |[],r,_=>.nil|d::b,r,h=>by rw[ak,OL];refine⟨Dr r (h d MX),dH λc hc=>h c (MW _ hc),λa ha c hc=> ?_⟩;have f:=(rL ha).1;have e:=(iV hc).2;unfold lR;rw[MY (by omega),MY (by omega)];exact⟨Mv (by omega),Mt (by omega)⟩
theorem ES(a:Int×Int):lR a a=false:=by unfold lR;rw[Ma rfl];exact Mt (by omega)
theorem iG{L:List (Int×Int)}(h:L.Pairwise λa c=>lR a c=true/\lR c a=false):L.Nodup := h.imp λz e=>by rw[e,ES]at z;cases z.1
theorem EQ{L:List (Int×Int)}(h:L.Pairwise λa c=>lR a c=true/\lR c a=false):L.Pairwise λa c=>a.1<=c.1 :=
 h.imp λ{a c} z=>by
  have b:=z.1;unfold lR at b
  split at b;omega
  .have:=NA b
   omega
section
variable{rows:List (List Nat)}(hr:∀cs∈rows,cs.Pairwise (·<·))
def KB(a:List (List Nat))(p:List (Int×Int)):Prop:=DF p/\∀x∈p,x∈ak 0 a
theorem ur(a:∀b∈rows,b.Pairwise (·<·)):KB rows p↔OD.Lg dW [] (ak 0 rows) p := ⟨λh=>v5 _ [] p (EQ (dH a)) h.1 h.2,λh=>⟨IJ h Fh,h.sub⟩⟩
def k8(a:List (List Nat))(p:List (Int×Int)):Nat:=OD.DA dW [] (ak 0 a) p
theorem ym(hr:∀cs∈rows,cs.Pairwise (·<·))(hp:KB rows p):OD.sumZ (OD.mU dW lR (pL rows p.length) p) (ak 0 rows)=((k8 rows p:Nat):Int) := OD.kN (iG (dH hr)) (dH hr) (GD rows p.length) (ak 0 rows) [] [] p rfl rfl .nil ((ur hr).mp hp)
theorem wZ(hr:∀cs∈rows,cs.Pairwise (·<·))(hp:KB rows p):((k8 rows p:Nat):Int)<cnt rows [] p.length:=by
 have h1:=OD.k7 _ [] p (iG (dH hr)) ((ur hr).mp hp);have h2:=gB rows 0 [] p.length λx hx=>by cases hx
 have h3:cO []=[]:=rfl;rw[h3]at h2;unfold k8;omega
theorem ud(hr:∀cs∈rows,cs.Pairwise (·<·))(hp:KB rows p):((ak 0 rows).foldl (OD.turn dW (pL rows p.length)) ([],((k8 rows p:Nat):Int))).1=p:=by have lg:=(ur hr).mp hp;rw[OD.qp (GD rows p.length) (ak 0 rows) [] [] (k8 rows p) rfl .nil (M6 _) (OD.k7 _ [] p (iG (dH hr)) lg)];exact OD.oZ _ [] p (iG (dH hr)) lg
end
end IR
namespace OD
section
variable{α:Type}[DecidableEq α]{ok:List α->α->Bool}
def fs{a:Type}(f:Nat->Option a):Nat->Option a
 |0=>none|n+1=>(f n).or (fs f n)
def tr(a:List α->α->Bool):List α->List α->List α->Nat->Option (List α)
 |_,_,[],_=>none|_,[],_::_,_=>none|b,c::L,x::p,0=>if x=c then(if 0<cnt a b L (p.length+1)then some (AA a b L (p.length+1) 0)else none)else tr a b L (x::p) 0|b,c::L,x::p,i+1=>if x=c then(tr a (b++[c]) L p i).map (c::·)else tr a b L (x::p) (i+1)
end
end OD
namespace IR
open PySem
def chR(C:List (List Int))(r:Int):List Int:=C.getD r.toNat []
def tkL(b:au->Int->List Int->Bool×au×List Int)(a:Int):List Int->au->List Int->Bool×au×List Int
 |[],H,T=>(false,H,T)|c::cs,H,T=>if T.contains c then tkL b a cs H T else match iL H c with
  |none=>(true,jU H c a,T++[c])|some r=>match b H r (T++[c])with
   |(true,H',T')=>(true,jU H' c a,T')|(false,H',T')=>tkL b a cs H' T'
def tk(C:List (List Int)):Nat->au->Int->List Int->Bool×au×List Int
 |0,H,_,T=>(false,H,T)|n+1,H,row,T=>tkL (tk C n) row (chR C row) H T
def hd(C:List (List Int)):Nat->au
 |0=>[]|k+1=>(tk C 9 (hd C k) (k:Nat) []).2.1
section
variable{rows:List (List Nat)}(hc:iu rows)(hr:∀cs∈rows,cs.Pairwise (·<·))
include hr
end
end IR
namespace XE
open PySem
abbrev fr(l:List Env):List Addr:=l.filterMap (·.frame)
def DD(h:Heap)(e T:Addr)(cls:Value)(g:Option Addr)(f:Value):Prop :=
 ∃a d b c,h.get? e=some a/\a.cls=cls/\a.dict=g/\a.data=.fields d/\d[1]? =some (.ref T)/\T≠e/\h.get? T=some b/\b.data=.fields c/\c[3]? =some f
structure Up(fs ns:List Addr)(h h' :Heap):Prop where
 keep:∀b o,h.get? b=some o->b∉fs->b∉ns->h'.get? b=some o
 slot:∀b o,h.get? b=some o->b∈fs->∃sl,h'.get? b=some {o with slots:=sl}
set_option tactic.hygienic false
theorem CN(o:Obj)(f:Array Value->Array Value):(Obj.mapFields f o).dict=o.dict:=by
 unfold Obj.mapFields
 split<;>rfl
section
variable{M:Model}{A:Around}{E:Value->Shared->Prop}{s:Shared}{base:Heap}{env:Env}{outer:List Env}{L e T:Addr}{cls fl:Value}{dd:Option Addr}{Q:Unit->Shared->Prop}{oe:Obj}{vs:Array Value}
theorem tT{nx:Bool}(l:A.frames=some (c::outer))(y:s.heap.FunFrames base (c::outer))(J:c.frame=some L)(w:s.heap.get? e=some oe)(n:oe.data=.fields vs)(D:1<vs.size)
  (h:∀r T,Up (fr (c::outer)) [e] s.heap r ->s.heap.get? T=none->DD r e T oe.cls oe.dict (rawInt L)->Q () {s with heap:=r}) :
  wpAny M A (do let a<-frameOf c;let pl<-entryPlaceOf L nx;let b<-EntryCells.newEntry d a .none (rawInt L) .none pl;setField (.ref e) 1 b) Q E s:=by
 have x:e∉fr (c::outer):=λm=>by obtain⟨_,o,H,I⟩:=y.mem m;rw[w]at H;cases H;exact I vs n
 refine MS (wpAny_frameOf_fun l y J λk1 sk=> ?_);refine MS (wpAny_entryPlaceOf λpl isp=> ?_);refine MS (NC ?_ (isp.sizeOk5 _ _ _ _ _));have i:=(sk.2.1 e x).trans w;have u:=Ni (Mi i)
 generalize j:({cls:=.type "traceback",dict:=none,data:=.fields ([d,.ref L,.none,rawInt L,.none]++(if pl.isEmpty then List.replicate 6 Value.none else pl)).toArray}:Obj)=ob
 have f:=MU ob i;refine Nu f n D ?_;have g:=NK n (·.setIfInBounds 1 (Value.ref k1.objs.size));have v:∀b o,b≠e->k1.get? b=some o->((k1.push ob).update e (Obj.mapFields (·.setIfInBounds 1 (Value.ref k1.objs.size)))).get? b=some o:=λb o nb q=>by rw[Mw _ _ (Nd nb)];exact MU _ q
 refine h _ k1.objs.size ⟨λb o q n1 n2=>v b o (λz=>n2 (by rw[z];exact My.mpr rfl)) ((sk.2.1 b n1).trans q),λb o q m=> ?_⟩ ?_ ?_
 .obtain⟨C,p⟩:=sk.2.2 b o q
  exact⟨C,v b _ (λz=>x (by rwa[<- z])) p⟩
 .cases q:s.heap.get? k1.objs.size with
  |none=>rfl|some o =>obtain⟨C,p⟩:=sk.2.2 _ o q;exact absurd (Mi p) (OK _)
 .refine⟨_,_,ob,_,M3 _ f (Nj g),PF _ _,CN _ _,g,by simp[D],u,?_,by rw[<- j],?_⟩
  .rw[Mw _ _ (Nd u)]
   exact Mg k1 (by rw[<- j];rfl)
  .rcases isp with rfl|⟨_,_,_,_,_,_,_,rfl⟩<;>simp
theorem land(r:DD s.heap e T cls dd fl)(h:∀a,(∀b o,s.heap.get? b=some o->b≠T->a.get? b=some o)->DD a e T cls dd .none->Q () {s with heap:=a}):wpAny M A (setFlight (.ref e) none) Q E s:=by
 obtain⟨v,u,C,x,d,y,w,i,j,c,g,p,z⟩:=r;refine MS (Nt d i j ?_);have l:=(O6.mp z).1;have m:=NK p (·.setIfInBounds 3 (none.elim Value.none λf=>rawInt f));refine Nu g p l (h _ (λb o q n=> ?_) ⟨v,u,_,_,?_,y,w,i,j,c,M3 _ g (Nj m),m,by simp[l]⟩)
 .rw[Mw _ _ (Nd n)]
  exact q
 .rw[Mw _ _ c]
  exact d
theorem vF(b:A.frames=some (a::outer))(j:s.heap.FunFrames base (a::outer))(d:a.frame=some L)(f:s.heap.get? e=some oe)(i:oe.data=.fields vs)(g:vs[1]? =some .none)
  (h:∀c T,Up (fr (a::outer)) [e] s.heap c ->s.heap.get? T=none->DD c e T oe.cls oe.dict (rawInt L)->Q () {s with heap:=c}):wpAny M A (noteFrame (.ref e) a) Q E s:=by
 unfold noteFrame;simp only[d];refine MS (Nt f i g ?_);exact tT b j d f i (O6.mp g).1 h
theorem yn(hfr:A.frames=some (env::outer))(hl:s.heap.FunFrames base (env::outer))(hf:env.frame=some L)(ht:DD s.heap e T cls dd .none)
  (h:∀h' T',Up (fr (env::outer)) [e,T] s.heap h' ->s.heap.get? T' =none->DD h' e T' cls dd (rawInt L)->Q () {s with heap:=h'}):wpAny M A (noteFrame (.ref e) env) Q E s:=by
 obtain⟨oe,vs,oT,ts,e1,e2,e3,e4,e5,e6,e7,e8,e9⟩:=ht;unfold noteFrame;simp only[hf];refine MS (Nt e1 e4 e5 ?_);refine MS (Nt e7 e8 e9 ?_);have nf:∀b∈fr (env::outer),b≠T:=λb m z=>by obtain⟨_,o,ho,hn⟩:=hl.mem m;rw[z,e7]at ho;cases ho;exact hn ts e8
 refine MS (Nu e7 e8 (O6.mp e9).1 ?_);have ot:∀b,b≠T->(s.heap.update T (Obj.mapFields (·.setIfInBounds 3 Value.none))).get? b=s.heap.get? b:=λb n=>Mw _ _ (Nd n);refine tT hfr (hl.of_keeps λb o q n=>⟨o,?_,rfl⟩) hf ((ot e (Nd e6)).trans e1) e4 (O6.mp e5).1 λh' T' u n f=> ?_
 .rw[ot b λz=>by rw[z,e7]at q;cases q;exact n ts e8]
  exact q
 .have nT:T' ≠T:=λz=>by
   rw[z,show(Shared.heap {s with heap:=s.heap.update T (Obj.mapFields (·.setIfInBounds 3 Value.none))}).get? T=_ from M3 _ e7 (Nj (NK e8 _))]at n;cases n
  refine h h' T' ⟨λb o q n1 n2=>u.keep b o ?_ n1 ?_,λb o q m=>u.slot b o ?_ m⟩ ?_ (by rwa[<- e2,<-e3])
  .exact(ot b λz=>n2 (by rw[z];simp)).trans q
  .exact λz=>n2 (by rw[My.mp z];simp)
  .exact(ot b (nf b m)).trans q
  .exact(ot T' nT).symm.trans n
theorem Up.land(u:Up c f h d)(n:h.get? T=none)(k:∀b o,d.get? b=some o->b≠T->a.get? b=some o):Up c f h a := ⟨λb o q n1 n2=>k b o (u.keep b o q n1 n2) (λz=>by rw[z,n]at q;cases q),λb o q m=>by obtain⟨i,g⟩:=u.slot b o q m;exact⟨i,k b _ g (λz=>by rw[z,n]at q;cases q)⟩⟩
theorem sY(b:A.frames=some (a::outer))(j:s.heap.FunFrames base (a::outer))(d:a.frame=some L)(g:s.heap.get? e=some oe)(l:oe.data=.fields vs)(i:vs[1]? =some .none)
  (h:∀c T,Up (fr (a::outer)) [e] s.heap c ->s.heap.get? T=none->DD c e T oe.cls oe.dict .none->Q () {s with heap:=c}):wpAny M A (leaving a (.ref e)) Q E s:=by
 refine MS (vF b j d g l i λk1 T u n f=> ?_);exact land f λk2 k f2=>h k2 T (u.land n k) n f2
theorem EM(c:A.frames=some (a::outer))(j:s.heap.FunFrames base (a::outer))(g:a.frame=some L)(i:DD s.heap e T cls dd .none)
  (h:∀d b,Up (fr (a::outer)) [e,T] s.heap d ->s.heap.get? b =none->DD d e b cls dd .none->Q () {s with heap:=d}) :
  wpAny M A (noteFrame (.ref e) a) (λ_ s2=>wpAny M A (setFlight (.ref e) none) Q E s2) E s:=by
 refine yn c j g i λk1 b u n f=> ?_;exact land f λk2 k f2=>h k2 b (u.land n k) n f2
end
end XE
namespace XE
open PySem PySem.W PyProof.Rows
structure XC(K:Frag)(C:Addr):Prop where
 ga:findIn K (.ref C) "__getattribute__"=some (some (.builtin "BaseException.__getattribute__"))
 gn:findIn K (.ref C) "__getattr__"=some none
 ca:findIn K (.ref C) "__class__"=some (some (.builtin "object.__class__"))
 sg:specialIn K (.builtin "object.__class__") "__get__"=some (some (.builtin "getset_descriptor.__get__"))
 tk:takesIn K (.builtin "object.__class__")=some true
 ob:mroIn K C (.type "object")=some true
 be:mroIn K C (.type "BaseException")=some true
 cl:(clsIn K C).isSome=true
section
variable{prog:Program}{w:World}{A:Around}{E:Value->Shared->Prop}{s:Shared}{K:Frag}{e C:Addr}{ox:Obj}{od:Option Obj}
set_option tactic.hygienic false
theorem XC.find(c:XC K C):findObj K C od "__class__"=some (.bind (.builtin "getset_descriptor.__get__") (.builtin "object.__class__")):=by obtain⟨b,a⟩:=Oi.mp c.cl;unfold findObj;rw[a,M5,c.ca,M5];simp[c.sg,c.tk]
theorem By(c:XC K C)(X:K.In s.heap)(I:InstAt s.heap e ox C od)(f:Q () s):wpAny M A (checkBuiltinCall "BaseException.__getattribute__" ⟨[.ref e,a],[]⟩) Q E s:=by
 obtain⟨m,g,d,t,i⟩:=s;have j:=I.type (M:=M);have l:=looks_mroIn (M:=M) X c.be;have h:builtinKind "BaseException.__getattribute__"=some .slot:=by decide +kernel
 have b:splitId "BaseException.__getattribute__"=some ("BaseException","__getattribute__"):=by decide +kernel
 simp only[checkBuiltinCall,h,b];refine MS ?_;unfold isInstance
 repeat lk
 exact f
theorem Cd(c:XC K C)(X:K.In s.heap)(I:InstAt s.heap e ox C od)(h:Q (some (.ref C)) {s with toks:=s.toks+1}) :
  wpAny (model prog w) A (getAttr? (.ref e) "__class__") Q E s:=by
 obtain⟨m,g,d,t,j⟩:=s;have a:=I.type (M:=model prog w);refine MS (wpAny_mkText (MS (Ob (NV (MS (a.at (MS ((looks_findIn (M:=model prog w) X c.ga).at ?_))))))));refine MS ?_;refine (looks_findIn (M:=model prog w) X c.gn).at ?_;refine MS (Ob (NV ?_));show wpAny _ _ (boundAndCalled _ _ _) _ _ _;unfold boundAndCalled;refine MS (MV ?_);refine wpAny_call (codeAny_call_builtin F.attr_ValueError.ga.plain F.entry_bexc_ga (By c X I ?_));refine MS (MV ?_);refine MS (MV ?_);refine MS (a.at ?_);refine MS ((looks_find (M:=model prog w) X I c.find).at ?_);refine MS (NV (wpAny_call (class_get X I c.ob ?_)));exact MV (MV (MV h))
set_option tactic.hygienic true in
theorem kitx{K:Frag}{e C:Addr}(c:XC K C):KitX K (.ref e) (.ref C) (λh=>∃f d,W.InstAt h e f C d) where
 ty:=λ_ _ _ ⟨_,_,I⟩=>I.type
 it:=λ_ _ X _=>by
  obtain⟨g,a⟩:=Oi.mp c.cl;unfold clsIn at a
  split at a
  .rename_i b
   exact λA' Q' E' s' k q=>MS (wpAny_loadPart (k _ _ (X _ _ b)) (MV q))
  .cases a
 ne:=λh tp dd its n sl X htp=>by
  obtain⟨g,a⟩:=Oi.mp c.cl;refine OB.mpr λq=> ?_;have z:=Value.ref.inj (Nx.mp q);subst z;unfold clsIn at a
  split at a
  .rename_i b
   cases ((X _ _ b).symm.trans htp)
  .cases a
 ca:=λX ⟨_,_,I⟩ k=>Cd c X I k
end
end XE
namespace L2.XN
open PySem PySem.Spec PyProof.Rows L2 XE
section
variable{P:Program}{w:World}{H H' :Hp}{h h' h2:Heap}{a:Addr}{o:HO}{fs ns:List Addr}
set_option tactic.hygienic false
theorem ng(x:ah P w H h a o):∃u,h.get? a=some u:=by
 cases o with
 |lst g=>obtain⟨_,_,_,_,e⟩:=x;exact⟨_,e⟩
 |tup g=>obtain⟨_,_,_,b,e,_⟩:=x;exact⟨_,e⟩
 |dK c=>obtain⟨_,_,_,_,b,_,_,e,_⟩:=x;exact⟨_,e⟩
 |dT c=>obtain⟨_,_,_,_,b,_,_,e,_⟩:=x;exact⟨_,e⟩
 |set S n=>obtain⟨b,_,_,_,e,_⟩:=x;exact⟨_,e⟩
 |ins C j d=>obtain⟨_,_,_,e,_⟩:=x;exact⟨_,e⟩
 |own y=>exact x|xd d=>obtain⟨_,⟨_,_,_,e,_⟩,_⟩:=x;exact⟨_,e⟩
 |rng i p=>obtain⟨_,_,_,e⟩:=x;exact⟨_,e⟩
 |frz b u=>obtain⟨e,_⟩:=x;exact⟨_,e⟩
 |tbl m=>exact⟨_,(show h.get? a=some _ from x)⟩|met f y=>exact⟨_,(show h.get? a=some _ from x)⟩|ext l=>obtain⟨_,e,_⟩:=x;exact e
theorem tD(c:eI P w H h)(e:h.get? a=none):H a=none:=by
 cases q:H a with
 |none=>rfl|some u =>obtain⟨v,b⟩:=ng (c a u q);rw[e]at b;cases b
theorem vT(f:eI P w H h)(u:Up fs ns h h')(d:∀b∈fs,H b=none)(c:∀b∈ns,H b=none):eI P w H h' :=λa o e =>
 (f a o e).stay (λb v hb q=>u.keep b v q (λz=>by
  rcases hb with r|r
  .rw[r]at z;rw[d _ z]at e;cases e
  .rw[d _ z]at r;cases r) λz=>by
  rcases hb with r|r
  .rw[r]at z;rw[c _ z]at e;cases e
  .rw[c _ z]at r;cases r) (λ_ q=>q) λ_ _ q=>q
theorem KO(u:Un fs [] l H d i)(p:Up (L::fs) ns i h2)(m:d.objs.size<=L)(s:∀b∈ns,d.get? b=none):Un fs [] l H d h2:=by
 have x:∀b o,d.get? b=some o->b≠L:=λb o q z=>absurd (Mi q) (by rw[z];exact Nat.not_lt.mpr m);have j:∀b o,d.get? b=some o->b∉ns:=λb o q z=>by rw[s b z]at q;cases q
 refine⟨λb o q n c hx=>p.keep b o (u.keep b o q n c hx) (λz=> ?_) (j b o q),λb o q n c hx=> ?_,u.free,λb o q hx=> ?_,u.tups,u.frzs,u.tbls⟩
 .rcases Ml.mp z with r|r
  .exact x b o q r
  .exact c r
 .obtain⟨v,e⟩:=u.slot b o q n c hx
  obtain⟨f,g⟩:=p.slot b _ e (MW _ c);exact⟨f,g⟩
 .obtain⟨y,e⟩:=u.there b o q hx
  by_cases c:b∈L::fs
  .obtain⟨v,g⟩:=p.slot b _ e c
   exact⟨_,g⟩
  .exact⟨_,p.keep b _ e c (j b o q)⟩
end
def DE(P:Program)(w:World)(C:Addr):uU:=λouter H s E u s' =>
 ∃e T a b,u=.ref e/\s'.os=s.os/\AllBare s'.gens/\Un (uQ outer) [] H a s.heap s'.heap/\eI P w a s'.heap/\s.heap.get? e=none/\s.heap.get? T=none/\a e=none/\a T=none /\ DD s'.heap e T (.ref C) b .none/\E (.ref C) b a
section
variable{P:Program}{w:World}{K:W.Frag}{mg:Str->Option Value}{base:Heap}{N:List Str}{qual:Str}{scope:Scope}{f C:Addr}{cd:Value}{A:Around}{outer:List Env}{s s1:Shared}{H H1:Hp}{E:XK}
 {pins:List (Addr×Obj)} {σ:St}
set_option tactic.hygienic false
theorem yc{args:List Value}(I:Inv (iS (DE P w C) P w K mg base N qual scope f cd A outer s H E) pins σ H1 s1)(a:Heap.MadeExcOf s1.heap b e (.ref C) args)(q:E (.ref C) none H1) :
  (iS (DE P w C) P w K mg base N qual scope f cd A outer s H E).xe (.ref e) {s1 with heap:=b}:=by
 have J:Inv (iS (DE P w C) P w K mg base N qual scope f cd A outer s H E) pins σ H1 {s1 with heap:=b} :=
  I.call' (ch:=[]) rfl (Un.kept a.keeps) (I.hok.kept a.keeps) I.bare (λb z=>absurd z (by simp))
 obtain⟨t,g,-,-⟩:=a.there;have d:s.heap.get? e=none:=by
  cases q:s.heap.get? e with
  |none=>rfl|some o =>obtain⟨h,z⟩:=I.base.there e o q (NJ);rw[a.new]at z;cases z
 have c:=tD I.hok a.new;refine sY J.ok.frames J.stack rfl g rfl rfl λh2 T up hT fly=> ?_;refine⟨e,T,H1,none,rfl,J.os,J.bare,KO J.base up J.ok.above (λb m=>by rwa[My.mp m]),vT J.hok up J.stkFree (λb m=>by rwa[My.mp m]),d,?_,c,tD J.hok hT,fly,q⟩;cases q:s.heap.get? T with
 |none=>rfl|some o =>obtain⟨h,z⟩:=J.base.there T o q (NJ);rw[hT]at z;cases z
end
def AO(E:XK)(C:Addr):TS:=λ_ _ H=>E (.ref C) none H
set_option tactic.hygienic false
theorem yd{B:String}(O:OwnCls x C bm newId X.mg X.base)(Fn:ExcBaseFacts Bn newId inN bmN)(hBn:bm.contains (.type Bn)=true)
  (FB:ExcBaseFacts B nid initId bm) (hc:X.calm=true) (hg:Gl X x)
  (hx:∀pins σ H s h' e,Inv X pins σ H s->Heap.MadeExcOf s.heap h' e (.ref C) []->E (.ref C) none H->X.xe (.ref e) {s with heap:=h'}) (hd:(x==("__debug__":Str))=false:=by decide) :
  PS X (.Raise (some (.Call (.Name x np) [] [] cpos)) none pos) (AO E C):=by
 intro pins s σ H D I q;obtain⟨tl,N,nm,qn,bs,hdct,sn,sub,ab,col,dd,k0,k1,k2,k3,k5,mN,hC,hN,hni,T⟩:=O.obj
 refine wpAny_Raise_call_subU (nm:=nm) (q:=qn) (N:=N) (bs:=bs) (hdct:=hdct) (sn:=sn) (sub:=sub) (ab:=ab) (col:=col) (dd:=dd) (k0:=k0) (k1:=k1) (k2:=k2) (k3:=k3) (k5:=k5)
  Fn hBn FB (T.hasType FB.hasBase) (I.ok.hd hc) rfl hni (fo I hg O.bound ⟨rfl,?_⟩ hd)
 exact evalArgs_empty ⟨rfl,M6 _,I.bk _ _ hC,hN.keeps I.bk,T.keeps I.bk,λh' e m=>hx pins σ H s h' e I m q⟩
end L2.XN
namespace L2.XN
open PySem PySem.Spec PyProof.Rows L2 XE
section
variable{X:Cx}{pins:List (Addr×Obj)}{σ:St}{H:Hp}{s:Shared}{Wh:Value->Shared->Prop}{A:Around}{cm:Bool}
abbrev A1(X:Cx)(pn:List (Addr×Obj))(a:Value->Shared->Prop):Cx:={X with pn:=pn,xe:=a}
abbrev Ij(X:Cx)(e:Addr)(pn:List (Addr×Obj)):Cx:={X with A:=X.A.mark (some (.ref e)),calm:=false,pn:=pn,xe:=λ_ _=>False}
set_option tactic.hygienic false
theorem pinned(I:Inv X pins σ H s):Inv (A1 X (X.pn++pins) Wh) [] σ H s := ⟨⟨I.ok.mod,I.ok.kind,I.ok.glob,I.ok.blt,I.ok.above,I.ok.inj,I.ok.has,I.ok.cab,I.ok.hd,I.ok.frames,I.ok.stk,I.ok.exf,I.ok.bs,I.ok.bsz,I.ok.noex,I.ok.exfs,I.ok.funs,I.ok.frf⟩,I.os,I.bare,I.base,I.loc,I.cell,I.free,I.freeC,λp hp=>I.pin p (by rwa[NP]at hp),I.hok,I.len⟩
theorem unpinned(b:X.Ok)(I:Inv (A1 X (X.pn++pins) Wh) a σ H s):Inv X pins σ H s := ⟨b,I.os,I.bare,I.base,I.loc,I.cell,I.free,I.freeC,λp hp=>I.pin p (N6 _ hp),I.hok,I.len⟩
theorem LO(I:Inv X pins σ H s){pn:List (Addr×Obj)}(a:∀p∈pn,s.heap.get? p.1=some p.2/\H p.1=none/\p.1≠X.env.locals/\p.1∉X.fs/\∀v,p.2.data≠.cell v):Inv (Ij X e pn) [] σ H s := ⟨⟨I.ok.mod,I.ok.kind,I.ok.glob,I.ok.blt,I.ok.above,I.ok.inj,I.ok.has,I.ok.cab,(λz=>by cases z),I.ok.frames,I.ok.stk,I.ok.exf,I.ok.bs,I.ok.bsz,I.ok.noex,I.ok.exfs,I.ok.funs,I.ok.frf⟩,I.os,I.bare,I.base,I.loc,I.cell,I.free,I.freeC,λp m=>a p (by rwa[NP]at m),I.hok,I.len⟩
theorem K8(b:X.Ok){pn:List (Addr×Obj)}(I:Inv (Ij X e pn) [] σ H s)(a:∀p∈X.pn++pins,p∈pn):Inv X pins σ H s := ⟨b,I.os,I.bare,I.base,I.loc,I.cell,I.free,I.freeC,λp m=>I.pin p (N6 _ (a p m)),I.hok,I.len⟩
theorem JJ{A:Around}{v:V}(I:Inv X pins σ H s)(Z:X.N.Nodup)(C:X.N[i]? =some x)(w:X.env.scope.names.lookup x=some .local)(W:σ[i]? =some (some v))
  (h:∀O,Inv X pins (σ.set i none) H O ->Q () O):wpAny M A (unbindName X.env x) Q E s:=by
 obtain⟨m,D,J⟩:=id I.loc;obtain⟨u,-,l⟩:=J i x v C W (.inl w);have Y:m x=some u:=by
  rcases l with l|⟨k,_⟩
  .exact l.2
  .have R :X.env.scope.names.lookup x=some .cell\/X.env.scope.names.lookup x=some .free:=k
   rw[w]at R
   rcases R with z|z<;>cases z
 obtain⟨oL,_,_,a0,_⟩:=id D;refine wpAny_unbindName_local w D Y (by rw[I.ok.kind];rfl) λh' u' hn' hs=> ?_;have g:∀b o,X.s₀.heap.get? b=some o->b≠X.env.locals:=λb o e=>Ms (NH (Mi e) I.ok.above)
 refine h _ ⟨I.ok,I.os,I.bare,⟨λb o e n hb hx=>(hs.2 b (g b o e)).trans (I.base.keep b o e n hb hx),λb o e n hb hx=> ?_,I.base.free,λb o e hx=> ?_,I.base.tups,I.base.frzs,I.base.tbls⟩,⟨_,hn',λj y v' e1 e2 e3=> ?_⟩,λy c e=> ?_,I.free,I.freeC,λp hp=> ?_,λb ob e=> ?_,by simpa using I.len⟩
 .obtain⟨sl,q⟩:=I.base.slot b o e n hb hx
  exact⟨sl,(hs.2 b (g b o e)).trans q⟩
 .obtain⟨S,q⟩:=I.base.there b o e hx
  exact⟨S,(hs.2 b (g b o e)).trans q⟩
 .by_cases f:j=i
  .subst f
   rw[Nm (by rw[I.len];exact(Mh.mp C).1)]at e2;cases e2
  .rw[NQ (Nd f)]at e2
   obtain⟨a,T,q⟩:=J j y v' e1 e2 e3;refine⟨a,T,?_⟩
   rcases q with⟨k,q⟩|⟨k,c,q,z⟩
   .have U:y≠x:=λz=>f (iF Z e1 (z▸C))
    exact .inl ⟨k,by simp[U,q]⟩
   .exact .inr ⟨k,c,q,z.sameBut hs (I.cne y c q)⟩
 .obtain⟨a,z⟩:=I.cell y c e
  exact⟨a,z.sameBut hs (I.cne y c e)⟩
 .obtain⟨q,n,L,nf,d⟩:=I.pin p hp
  exact⟨(hs.2 p.1 L).trans q,n,L,nf,d⟩
 .refine(I.hok b ob e).stay (λc a hc q=>(hs.2 c λz=> ?_).trans q) (λ_ q=>q) λ_ _ q=>q
  rcases hc with r|r
  .rw[r]at z;rw[z,I.free]at e;cases e
  .rw[z,I.free]at r;cases r
def C5(d:uU)(X:Cx)(E:St->XK):Prop:=∀(a:List (Addr×Obj))(b:St)(H:Hp)(s:Shared)(u:Value)(c :Shared),Inv X a b H s->d X.stack H s (E b) u c ->X.xe u c
def Gm(b:Sp)(a:List V)(E:St->XK)(t:TA):TE:=λσ H Q=>t σ H λvs H1=>b (vs++a) H1 Q (E σ)
theorem lE{k:Nat}{o:Sp}{t:TA}(F:bQ X.prog X.w X.K X.mg X.base m k f n l o)(y:fH k X.A)(S:Gl X x)
  (z:X.mg x=some (.ref f)) (R:W.keepIn X.K (.ref f)=true) (L:Binds X.K n l c) (J:aM a c) (O:C5 m X E) (N:PA X (e::d) t) (i:(x==("__debug__":Str))=false:=by decide)
  (C:starEach (e::d) X.env=(false,eval e X.env)::starEach d X.env:=by rfl) (j:(backTo pos (starEach d X.env)).any (·.1)=false:=by rfl):PE X (.Call (.Name x p) (e::d) [] pos) (Gm o a E t):=by
 intro b s g H Q I h;refine Pa (fo I S z ?_ i);refine W.callWith_K I.ok.mod.kin R (aj (N pos b s g H _ I h) λus s1 ⟨vs,H1,I1,r,q⟩=>⟨I1.kIn,?_⟩) C j;have v:=r.append J;have D:(us++c).length=l.length:=by rw[<- v.length];exact F.len _ _ _ _ q
 refine wpAny_call (Pg (F.run X.A X.stack s1 H1 ⟨us,[]⟩ (us++c) (vs++a) Q (E g) y I1.env0 (L s1 us I1.kIn D) v q) λr s' hq=> ?_);cases r with
 |error u=>exact O b g H1 s1 u s' I1 hq|ok M =>
  cases M with
  |ret u=>exact I1.after hq|next=>exact hq.elim|brk=>exact hq.elim|cont=>exact hq.elim
theorem AC(u:Un c [] m H d j)(p:Up c g j i)(r:∀b∈g,d.get? b=none):Un c [] m H d i:=by
 have l:∀b o,d.get? b=some o->b∉g:=λb o q z=>by rw[r b z]at q;cases q
 refine⟨λb o q n a hx=>p.keep b o (u.keep b o q n a hx) a (l b o q),λb o q n a hx=> ?_,u.free,λb o q hx=> ?_,u.tups,u.frzs,u.tbls⟩
 .obtain⟨v,e⟩:=u.slot b o q n a hx
  obtain⟨f,h⟩:=p.slot b _ e a;exact⟨f,h⟩
 .obtain⟨w,e⟩:=u.there b o q hx
  by_cases a:b∈c
  .obtain⟨v,h⟩:=p.slot b _ e a
   exact⟨_,h⟩
  .exact⟨_,p.keep b _ e a (l b o q)⟩
def Cq(i:Nat)(D:cE):cE:={nx:=λσ H=>D.nx (σ.set i none) H,rt:=D.rt,bk:=λσ H=>D.bk (σ.set i none) H,ct:=λσ H=>D.ct (σ.set i none) H}
end
end L2.XN
namespace L2.XN
open PySem PySem.Spec PyProof.Rows L2 XE
structure C6(K:W.Frag)(mg:Str->Option Value)(x:Str)(C:Addr):Prop where
 nm:mg x=some (.ref C)
 cl:(W.clsIn K C).isSome=true
 ty:W.typeIn K (.ref C)=some (.type "type")
section
variable{K:W.Frag}{mg:Str->Option Value}{x:Str}{C D:Addr}{b:Bool}
set_option tactic.hygienic false
theorem C6.kcls(k:C6 K mg x D)(h:W.subIn K (.ref C) (.ref D)=some b):W.kitCls K (.ref C) (.ref D)=some b:=by show(if((W.clsIn K D).isSome&&W.typeIn K (.ref D)==some (.type "type"))=true then W.subIn K (.ref C) (.ref D)else none)=some b;rwa[Ma (by rw[k.cl,k.ty];rfl)]
set_option tactic.hygienic true in
theorem C6.kit(k:C6 K mg x D)(h:W.subIn K (.ref C) (.ref D)=some b)(a:C=D->b=true):W.kitOne K (.ref C) (.ref D)=some b:=by
 unfold W.kitOne
 split
 .rename_i z
  rw[a (Value.ref.inj (Nx.mp z))]
 .exact k.kcls h
theorem C6.exm(k:C6 K mg x D)(h:W.subIn K (.ref C) (.ref D)=some b)(a:W.subIn K (.ref D) (.type "BaseException")=some true):W.exmOne K (.ref C) (.ref D)=some b:=by unfold W.exmOne;rw[Ma (by rw[a];rfl)];exact k.kcls h
theorem IU(h:W.subIn K (.ref C) (.type T)=some b)(a:W.kitMeta T=true):W.kitOne K (.ref C) (.type T)=some b:=by unfold W.kitOne;show(if W.kitMeta T=true then W.subIn K (.ref C) (.type T)else none)=some b;rwa[Ma a]
set_option tactic.hygienic true in
theorem Ha(X:K.In h)(p:mg x=some (.ref C))(q:W.excIn K C j a=true):OwnCls x C j a mg h:=by
 refine⟨p,?_⟩;unfold W.excIn at q
 split at q
 case h_2=>cases q
 rename_i M s w c
 split at q
 case h_2=>cases q
 rename_i I u H E A z n S e g;simp only[Mb,Nx,ON]at q;obtain⟨⟨⟨⟨⟨o,v⟩,i⟩,y⟩,d⟩,f⟩:=q;subst o v;obtain⟨U,T,L,N,O,J,Y,Q,R,m,r⟩:=s;subst e i;obtain⟨l⟩:=w;subst g;exact⟨u,_,_,_,_,_,_,_,_,_,_,_,_,_,_,_,_,X _ _ c,.of_isNs (W.isNs_of_in X d),W.nsMap_none_of_in X d f,W.tail_of_in X y⟩
end
theorem JB{P:Program}{K:W.Frag}{k:Nat}(g:∀b H Q E,d b H Q E->b.length=e.length)
  (h:Mod K c a->bQ P w K c a i k f j e d):bQ P w K c a i k f j e d :=
 ⟨g,λA outer s H args us b Q E hr he=>(h he.mod).run A outer s H args us b Q E hr he⟩
end L2.XN
namespace XE
open PySem
end XE
namespace XE
open PySem PySem.W PyProof.Rows
end XE
namespace L2.XN
open PySem PySem.Spec PyProof.Rows L2 XE
def XN(C:Addr)(a:Option Addr)(e:Addr):HO:=.ext λh=>∃t,h.get? e=some {cls:=.ref C,dict:=a,data:=.fields #[.ref t,.none,.none,.none,.bool false,.none]}
def XO(C:Addr)(a:Option Addr)(e:Addr):HO:=.ext λh=>∃o b,h.get? e=some o/\o.cls=.ref C/\o.dict=a/\o.data=.fields b
def GO(H:Hp)(C:Addr)(a:Option Addr)(e:Addr):Prop:=H e=some (XN C a e)\/H e=some (XO C a e)
def BI(H:Hp)(e:Addr):Hp:=λb=>if b=e then none else H b
section
variable{P:Program}{w:World}{H H1 H2:Hp}{h h2:Heap}{e C:Addr}{dd:Option Addr}{o:HO}{fs ex:List Addr}
theorem KL(q:h.get? e=some a)(d:a.cls=.ref C)(c:a.dict=dd)(f:a.data=.fields b):ah P w H h e (XO C dd e) := ⟨⟨a,b,q,d,c,f⟩,⟨_,q⟩,λ_ _ ⟨a,b,z,z1,z2,z3⟩ k=>⟨a,b,k _ z,z1,z2,z3⟩⟩
set_option tactic.hygienic false
theorem GO.at(x:GO H C dd e)(c:eI P w H h):∃a b,h.get? e=some a/\a.cls=.ref C/\a.dict=dd/\a.data=.fields b:=by
 rcases x with x|x
 .obtain⟨⟨t,q⟩,_⟩:=c e _ x
  exact⟨_,_,q,rfl,rfl,rfl⟩
 .obtain⟨⟨a,b,q,f,d,g⟩,_⟩:=c e _ x
  exact⟨a,b,q,f,d,g⟩
theorem GO.mono(x:GO H C dd e)(s:∀b o,H b=some o->H1 b=some o):GO H1 C dd e:=x.imp (s _ _) (s _ _)
theorem zA(d:eI P w H h)(n:H e=none)(a:ah P w (upd H e o) h e o):eI P w (upd H e o) h:=λb u q=>by
 by_cases c:b=e;subst c;rw[aB]at q;cases q;exact a
 .rw[aA c]at q
  exact(d b u q).stay (λ_ _ _ z=>z) (λc z=>by rwa[aA (aE z n)]) λc xs z=>by rwa[aA (aE z n)]
theorem AD(u:Un fs ex H H1 h h2)(n:h.get? e=none)(a:H1 e=none):Un fs ex H (upd H1 e o) h h2 := ⟨u.keep,u.slot,λb ob q z hx=>by rw[aA (λy=>by rw[y,n]at q;cases q)];exact u.free b ob q z hx,u.there,λb xs z=>by rw[aA (aE (u.tups b xs z) a)];exact u.tups b xs z,λb ob v z=>by rw[aA (aE (u.frzs b ob v z) a)];exact u.frzs b ob v z,λb ps z=>by obtain⟨m,y⟩:=u.tbls b ps z;exact⟨m,by rwa[aA (aE y a)]⟩⟩
end
end L2.XN
namespace L2.XN
open PySem PySem.Spec PyProof.Rows L2 XE
section
variable{X:Cx}{pins:List (Addr×Obj)}{σ:St}{H:Hp}{s:Shared}{C f e:Addr}{nm x:Str}{k:Nat}{fd:FuncData}{ps:List Str}{sp:Sp}{E:XK}{Q:VK}{p pos pos' :Pos}{e1 o value:Expr}{es:List Expr}{t:TA}{ta tv te:TE}{dvs:List V}{ds:List Value}
set_option tactic.hygienic false
theorem Ch(xc:XC X.K C)(hu:∀v,RelV c v->v=u)(k:W.kitOne X.K (.ref C) u=some b):bA X (.builtin "isinstance") (λxs H Q=>∃e dd,xs=[.ref e,c]/\GO H C dd e/\(∀d,dd=some d->∃fs,H d=some (.xd fs))/\Q (.bl b) H):=by
 intro pins s σ H xs us Q I r h;obtain⟨e,dd,rfl,hx,hd,q⟩:=h;obtain⟨u1,u2,rfl,r1,r2⟩:=vals2 r;cases r1;rw[hu u2 r2];obtain⟨ob,vs,h1,h2,h3,h4⟩:=hx.at I.hok;have ia:∃od,W.InstAt s.heap e ob C od:=by
  cases dd with
  |none=>exact⟨none,h1,h2,by unfold W.notCls;rw[h4],by rw[h3];trivial⟩|some d =>obtain⟨fs,ed⟩:=hd d rfl;obtain⟨mA,hn,r⟩:=I.hok d _ ed;obtain⟨od,ho,hl⟩:=nr hn;exact⟨some od,h1,h2,by unfold W.notCls;rw[h4],by rwa[h3]⟩
 obtain⟨od,ia⟩:=ia;exact Ol (kitx xc) I.kIn ⟨ob,od,ia⟩ k (λz=>by cases z) λtk=>⟨.bl b,H,I.tok _,rfl,q⟩
end
end L2.XN
namespace L2.XN
open PySem PySem.Spec PyProof.Rows L2 XE
section
variable{X:Cx}{pins:List (Addr×Obj)}{σ:St}{H:Hp}{s:Shared}
def AN(C:Addr)(i:Nat)(f:(St->XK)->TS)(d:Addr->Option Addr->TS):TS:=λD σ H =>
 ∃E:St->XK,f E D σ H/\∀a b c,a.length=σ.length->E a (.ref C) c b ->∀e,b e=none->d e c (Cq i D) (a.set i (some (.ref e))) (upd b e (XO C c e))
set_option tactic.hygienic false
theorem wd{C D:Addr}{i:Nat}{body:List Stmt}(hcalm:X.calm=true)(hst:X.stack=X.env::X.outer)(hf:X.env.frame=some X.env.locals)(hN:X.N.Nodup)(hi:X.N[i]? =some n)
  (hk:X.env.scope.names.lookup n=some .local) (hg:Gl X bx) (hm:X.mg bx=some (.ref D)) (hx:W.exmOne X.K (.ref C) (.ref D)=some true)
  (hb:∀(E:St->XK)(pn:List (Addr×Obj))(Wh:Value->Shared->Prop),C5 (DE X.prog X.w C) (A1 X pn Wh) E->qK (A1 X pn Wh) body (tb E))
  (hs:∀(e:Addr)(dd:Option Addr)(pn:List (Addr×Obj)),qK (Ij X e pn) (b0::suite) (ts e dd)) (hd:(bx==("__debug__":Str))=false:=by decide) :
  PS X (.Try body [.ExceptHandler (some (.Name bx bp)) (some n) (b0::suite) hpos] [] [] pos) (AN C i tb ts):=by
 intro pins s σ H D' I ⟨E,hq,hh⟩;refine wpAny_Try_except ?_
 let Wh:Value->Shared->Prop:=λu s' =>wpAny (model X.prog X.w) X.A (noteFrame u X.env) (λ_ s2=>wpAny (model X.prog X.w) X.A (setFlight u none) (λ_ s3 =>wpAny (model X.prog X.w) X.A (handleBy u X.env [.ExceptHandler (some (.Name bx bp)) (some n) (b0::suite) hpos]) (SP X pins D') X.xe s3) X.xe s2) X.xe s'
 have hp:C5 (DE X.prog X.w C) (A1 X (X.pn++pins) Wh) E:=by
  intro p2 σ1 H1 s1 u s2 I1 ⟨e,T,H2,dd,hu,ho,hbr,un,ok,n1,n2,n3,n4,fly,q⟩;subst hu;have J1:=unpinned I.ok I1;have J2:=J1.call' ho un ok hbr (λb z=>absurd z (by simp));have hfr:X.A.frames=some (X.env::X.outer):=by rw[<- hst];exact I.ok.frames
  have hfs:s2.heap.FunFrames X.base (X.env::X.outer):=by rw[<- hst];exact J2.stack
  have ns:∀b∈[e,T],s1.heap.get? b=none/\H2 b=none:=λb m=>by
   rcases Ml.mp m with r|r
   .rw[r];exact⟨n1,n3⟩
   .rw[My.mp r];exact⟨n2,n4⟩
  have st:∀{h3:Heap},Up (fr (X.env::X.outer)) [e,T] s2.heap h3->Inv X pins σ1 H2 {s2 with heap:=h3}:=λ{h3} up=>by rw[<- hst]at up;exact J1.call' ho (AC un up λb m=>(ns b m).1) (vT ok up J2.stkFree λb m=>(ns b m).2) hbr (λb z=>absurd z (by simp))
  refine EM hfr hfs hf fly λh3 T' up hT fly3=> ?_;refine wpAny_handleBy_cons (codeAny_handlers_test ?_) (by intro z;cases z);have K3:Inv (Ij X e []) [] σ1 H2 {s2 with heap:=h3}:=LO (st up) (λp z=>absurd z (by simp));refine fo K3 hg hm ?_ hd;obtain⟨oe,vs,oT,tts,e1,e2,e3,e4,e5,e6,e7,e8,e9⟩:=id fly3;have lt:W.Looks (model X.prog X.w) h3 (typeOf (.ref e)) (.ref C):=e2▸(W.Looks.ld e1).andThen .now;refine(W.exm_one K3.kIn lt hx).here ?_;refine codeAny_handlers_suite_as ?_;refine land fly3 λh4 k4 fly4=> ?_;obtain⟨oe4,vs4,oT4,ts4,f1,f2,f3,f4,f5,f6,f7,f8,f9⟩:=id fly4;have K4:Inv (Ij X e (X.pn++pins)) [] σ1 (upd H2 e (XO C dd e)) {s2 with heap:=h4}:=by
   have up4:=up.land hT k4;rw[<- hst]at up4
   have J5:=J1.call' (s' :={s2 with heap:=h4}) ho (AD (AC un up4 λb m=>(ns b m).1) n1 n3)
    (zA (vT ok up4 J2.stkFree λb m=>(ns b m).2) n3 (KL f1 f2 f3 f4)) hbr (λb z=>absurd z (by simp))
   exact LO J5 λp m=>J5.pin p m
  refine fM (X:=Ij X e (X.pn++pins)) K4 hN hi (.inl hk) (v:=.ref e) rfl (λs5 I5=> ?_) (.inr hk);refine No (hs e dd _ [] s5 _ _ (Cq i D') I5 (hh σ1 H2 dd ?_ q e n3)) (λf s6 r=> ?_) λ_ _ z=>z.elim
  .rw[J1.len,I.len]
  have fin:∀σ6 H6 v0,Inv (Ij X e (X.pn++pins)) [] σ6 H6 s6->(∀s7,Inv X pins (σ6.set i none) H6 s7->SP X pins D' f s7)->v0=v0 -> wpAny (model X.prog X.w) X.A (do bindName X.env n .none;unbindBehindTheSuite X.env n hpos) (λ_ s3=>SP X pins D' f s3) X.xe s6:=λσ6 H6 (v0:Nat) I6 k _=>by
   have J6:=K8 I.ok I6 λp m=>m;refine MS (wpAny_bindName (fM J6 hN hi (.inl hk) (v:=.non) rfl (λs7 J7=> ?_) (.inr hk)));refine wpAny_onRaise (JJ J7 hN hi hk (v:=.non) ?_ λs8 J8=> ?_)
   .rw[Nm (by rw[J6.len];exact(Mh.mp hi).1)]
   .rw[List.set_set]at J8
    exact k s8 J8
  cases f with
  |next =>obtain⟨σ6,H6,I6,q6⟩:=r;exact fin σ6 H6 0 I6 (λs7 J=>⟨_,_,J,q6⟩) rfl
  |brk =>obtain⟨σ6,H6,I6,q6⟩:=r;exact fin σ6 H6 0 I6 (λs7 J=>⟨_,_,J,q6⟩) rfl
  |cont =>obtain⟨σ6,H6,I6,q6⟩:=r;exact fin σ6 H6 0 I6 (λs7 J=>⟨_,_,J,q6⟩) rfl
  |ret u =>obtain⟨v,σ6,H6,I6,rv,q6⟩:=r;exact fin σ6 H6 0 I6 (λs7 J=>⟨v,_,_,J,rv,q6⟩) rfl
 refine No (hb E _ Wh hp [] s σ H D' (pinned I) hq) (λf s1 r=> ?_) λ_ _ r=>r;cases f with
 |next =>obtain⟨σ6,H6,I6,q6⟩:=r;exact Px ⟨σ6,H6,unpinned I.ok I6,q6⟩
 |brk =>obtain⟨σ6,H6,I6,q6⟩:=r;exact⟨σ6,H6,unpinned I.ok I6,q6⟩
 |cont =>obtain⟨σ6,H6,I6,q6⟩:=r;exact⟨σ6,H6,unpinned I.ok I6,q6⟩
 |ret u =>obtain⟨v,σ6,H6,I6,rv,q6⟩:=r;exact⟨v,σ6,H6,unpinned I.ok I6,rv,q6⟩
end
end L2.XN
namespace L2.XN
open PySem PySem.Spec PyProof.Rows L2 XE
end L2.XN
namespace L2.XN
open PySem PySem.Spec PyProof.Rows L2 XE
structure C2(k:Nat)(A:Around):Prop where
 dp:A.depth+3*k+5<recursionLimit
 un:A.units+16*k+200<cLine
abbrev cxH(P:Program)(w:World)(K:W.Frag)(c:Str->Option Value)(b:Heap)(N:List Str)(qual:Str)(scope:Scope)(f:Addr)(d:Value)(A:Around)(a:List Env)(s:Shared)(H:Hp):Cx :=
 {iS iw P w K c b N qual scope f d A a s H E0 with calm:=false,xe:=λ_ _=>False}
structure uL(P:Program)(w:World)(K:W.Frag)(mg:Str->Option Value)(base:Heap)(k:Nat)(f:Addr)(fd:FuncData)(ps:List Str)(sp:Sp):Prop where
 len:∀vs H Q E,sp vs H Q E->vs.length=ps.length
 run:∀(A:Around)(outer:List Env)(s:Shared)(H:Hp)(args:Args)(us:List Value)(vs:List V)(Q:VK),C2 k A->zZ P w K mg base A outer s H->BindsTo s fd args (ps.zip us)->aM vs us->sp vs H Q E0 ->
  codeAny (model P w) A (.call (.ref f) args) (CR iw outer P w H s Q E0) s
section
variable{P:Program}{w:World}{K:W.Frag}{mg:Str->Option Value}{base:Heap}{N ps:List Str}{qual:Str}{scope:Scope}{f:Addr}{A:Around}{outer:List Env}{s s1:Shared}{H:Hp}{us:List Value}{vs:List V}{k:Nat}{sp:Sp}
set_option tactic.hygienic false
theorem vS{cd:Value}(S:az N ps scope)(e0:zZ P w K mg base A outer s H)(hl:vs.length=ps.length)(r:aM vs us)
  (x:InCallC s s.heap.objs.size (bindL (envOfC qual scope s.heap.objs.size f cd).kindOf (ps.zip us) λ_=>none) (cellsFrom (s.heap.objs.size+1) scope.names []) (bindC (envOfC qual scope s.heap.objs.size f cd).kindOf (ps.zip us) λ_=>none) s1) :
  Inv (cxH P w K mg base N qual scope f cd A outer s H) [] (start N vs) H s1:=by
 have J:Inv (iS iw P w K mg base N qual scope f cd {A with handled:=none} outer s H E0) [] (start N vs) H s1:=n8 S rfl ⟨e0.frames,e0.mod,e0.bs,e0.bsz,e0.funs,e0.frf,e0.hok,e0.bare⟩ hl r x;exact⟨⟨J.ok.mod,J.ok.kind,J.ok.glob,J.ok.blt,J.ok.above,J.ok.inj,J.ok.has,J.ok.cab,(λz=>by cases z),Around.frames_deeper e0.frames,J.ok.stk,J.ok.exf,J.ok.bs,J.ok.bsz,J.ok.noex,J.ok.exfs,J.ok.funs,J.ok.frf⟩,J.os,J.bare,J.base,J.loc,J.cell,J.free,J.freeC,J.pin,J.hok,J.len⟩
theorem JA{body:List Stmt}{ct:Value}(lk:K.lookup f=some ⟨oc,od,.func (W.fnOf j qual c body scope Y T z R U d ct),O⟩)(L:W.codeIn K d qual=true)(S:az N ps scope)
  (p:∀g H Q E,sp g H Q E->g.length=ps.length)
  (m:∀(A:Around)(a:List Env)(s:Shared)(H:Hp)(g:List V)(Q:VK),sp g H Q E0->∃t,qK (cxH P w K mg base N qual scope f d A a s H) body t/\t {nx:=λ_ i =>Q .non i,rt:=Q} (start N g) H) :
  uL P w K mg base (k+1) f (W.fnOf j qual c body scope Y T z R U d ct) ps sp:=by
 refine⟨p,λA a s H args us g Q hr e0 hb r hsp=> ?_⟩;have X:=e0.mod.kin.keeps λb o e=>(e0.bs b o e).1;have l:∀y∈ps.zip us,scope.names.lookup y.1=some .local\/(scope.names.lookup y.1=some .cell/\((cellsFrom (s.heap.objs.size+1) scope.names []).lookup y.1).isSome=true):=λ⟨n,v⟩ hy=>by
  rcases S.par n (List.of_mem_zip hy).1 with q|q
  .exact .inl q
  .exact .inr ⟨q,W.cellsFrom_some _ _ _ (.inl q)⟩
 refine codeAny_call_function (by have:=hr.dp;omega) (X _ _ lk) rfl S.co S.gen rfl (W.codeRec_of X L) (hb _ _ _ _ ?_);refine wpAny_newFunctionEnv_cells S.kind l λenv he s1 x=> ?_;subst he;refine⟨(e0.mod.nolimit.keeps λb o e=>(e0.bs b o e).1).keeps x.toInCall.keep,codeAny_func ?_⟩;obtain⟨t,Z,hq⟩:=m A a s H g Q hsp;have I:=vS S e0 (p _ _ _ _ hsp) r x;refine No (Z [] s1 (start N g) H _ I hq) (λfl s' hs=> ?_) λe s' hs=>hs.elim
 have C:∀{h :St}{i :Hp}{v:V}{u:Value},Inv (cxH P w K mg base N qual scope f d A a s H) [] h i s' ->RelV v u->Q v i ->CE a P w H s Q u s' :=
  λ{h i v u} J M q=>⟨v,i,J.os,J.bare,J.base,J.hok,M,q⟩
 cases fl with
 |ret u =>obtain⟨v,h,i,J,M,q⟩:=hs;exact C J M q
 |next =>obtain⟨h,i,J,q⟩:=hs;exact C (v:=V.non) J rfl q
 |brk =>obtain⟨_,_,_,q⟩:=hs;exact False.elim q
 |cont =>obtain⟨_,_,_,q⟩:=hs;exact False.elim q
end
section
variable{X:Cx}{k:Nat}{f:Addr}{fd:FuncData}{ps:List Str}{sp:Sp}{x:Str}{p pos:Pos}{e:Expr}{es:List Expr}{t:TA}
set_option tactic.hygienic false
theorem r9(F:uL X.prog X.w X.K X.mg X.base k f fd ps sp)(hr:C2 k X.A)(hg:Gl X x)(hm:X.mg x=some (.ref f))(hk:W.keepIn X.K (.ref f)=true)(hb:Binds X.K fd ps [])(ha:PA X (e::es) t)
  (hdb:(x==("__debug__":Str))=false:=by decide) (he:starEach (e::es) X.env=(false,eval e X.env)::starEach es X.env:=by rfl) (hpl:(backTo pos (starEach es X.env)).any (·.1)=false:=by rfl) :
  PE X (.Call (.Name x p) (e::es) [] pos) (λσ H Q=>t σ H λvs H1=>sp vs H1 Q E0):=by
 intro pins s σ H Q I h;refine Pa (fo I hg hm ?_ hdb);refine W.callWith_K I.ok.mod.kin hk (aj (ha pos pins s σ H _ I h) λus s1 ⟨vs,H1,I1,r,q⟩=>⟨I1.kIn,?_⟩) he hpl;have hl:(us++[]).length=ps.length:=by rw[NP,<-r.length];exact F.len _ _ _ _ q
 have hb2:=hb s1 us I1.kIn hl;rw[NP]at hb2;refine wpAny_call (Pg (F.run X.A X.stack s1 H1 ⟨us,[]⟩ us vs Q hr I1.env0 hb2 r q) λr s' hq=> ?_);cases r with
 |error e=>exact hq.elim|ok fl =>
  cases fl with
  |ret u=>exact I1.after hq|next=>exact False.elim hq|brk=>exact False.elim hq|cont=>exact False.elim hq
end
end L2.XN
namespace IR
open PySem PySem.Spec PyProof.Rows L2 L2.XN
section
variable{K:W.Frag}{mg:Str->Option Value}{P:Nat->Option FD}{F:List (Str×Nat)}{G:List (Str×PV)}{B:List Str}{p:Program}{w:World}{base:Heap}{k:Nat}
variable(hG:∀x v,G.lookup x=some v->∃u w,mg x=some u/\RelV w u/\∀Hi n H,Rp K Hi n v H w)(hB:∀x,B.contains x=true->mg x=none)
include hG hB
end
end IR
namespace Law
open PySem PySem.Spec PyProof.Rows L2 IR
def F:List (Str×Nat):=("cells_of",3)::("columns_in",109)::("is_number",24)::("is_cell",25)::("is_placing",26)::("bits_of",46)::[("with_line",47),("takes_column",110),("holders_of",111),("tails_of",163),("row_behind",164),("columns_taken",165),("number_beginning",166),("placing_at",167),("start_at",168),("number_of",169),("free_columns",173),("goes_on",174),("first_behind",175),("next_placing",176),("_law_cell",4),("_law_mixed",5),("_law_deep",20),("_law_board",62),("_law_cells",66),("_law_whole",8),("_law_same",9),("_law_all_same",10),("_law_placing",170),("_law_row",64),("_law_kinds",203),("_law_at_refused",204),("_law_refused",205),("_law_struck_too",206),("_law_spoiled",207),("law",208)]
def G:List (Str×PV):=[("CELL",(.str "x"))]
def B:List Str:=["len","int","list","tuple","all","isinstance","str","bool","range","zip","enumerate","sorted","set","sum","reversed","dict","ValueError"]
abbrev N3:List Str:=["board","cells","row","line","column","sign"]
abbrev N109:List Str:=["line"]
abbrev N24:List Str:=["thing"]
abbrev N25:List Str:=["board","thing","row","column"]
abbrev N26:List Str:=["board","thing","rows","columns"]
abbrev N46:List Str:=["line","bits","bit","sign"]
abbrev N47:List Str:=["levels","bits","after","size","level","above","taken","count","bit"]
abbrev N163:List Str:=["board","tails","line"]
abbrev N164:List Str:=["begun"]
abbrev N165:List Str:=["begun"]
abbrev N166:List Str:=["tails","begun","size","tail","further","taken"]
abbrev MF:List Str:=["board","size","number","tails","begun","left","cell","start","count"]
abbrev N168:List Str:=["placing","cell"]
abbrev ME:List Str:=["board","placing","tails","starts"]
abbrev MD:List Str:=["board","placing","place","found"]
abbrev N4:List Str:=["_law_script","_law_k"]
abbrev N5:List Str:=["_law_cell_here","_law_k","_law_number"]
abbrev N20:List Str:=["_law_cell_here","_law_number","_law_k"]
abbrev N62:List Str:=["_law_head","_law_cell_here","_law_most","_law_rows","_law_columns","_law_thick","_law_lines","_law_row_here","_law_signs","_law_column","_law_place","_law_one"]
abbrev N66:List Str:=["_law_board_here","_law_found","_law_row_here","_law_column"]
abbrev N8:List Str:=["_law_found"]
abbrev N9:List Str:=["_law_found","_law_due"]
abbrev N10:List Str:=["_law_found","_law_due","_law_one","_law_other"]
abbrev N170:List Str:=["_law_board_here","_law_cell_here","_law_size","_law_found","_law_some","_law_one"]
abbrev N64:List Str:=["_law_board_here","_law_counts","_law_line","_law_fresh","_law_taken","_law_column","_law_more","_law_found"]
abbrev N203:List Str:=["_law_error","_law_some"]
abbrev N204:List Str:=["_law_board_here","_law_size","_law_number","_law_kept","_law_error"]
abbrev N205:List Str:=["_law_board_here","_law_thing","_law_by_next","_law_kept","_law_error"]
abbrev N206:List Str:=["_law_board_here","_law_placing_here","_law_found","_law_one"]
abbrev N207:List Str:=["_law_board_here","_law_placing_here","_law_number","_law_some","_law_beside","_law_row_here"]
abbrev N208:List Str:=["_law_script","_law_board_here","_law_numbers","_law_cell_here","_law_size","_law_number","_law_placing_here","_law_many","_law_thing"]
def d3:FD:=⟨6,1,(.cons (.asg 1 true [] (.lst .nil)) (.cons (.forr [2,3] false [0] (.enum (.var 0)) (.cons (.forr [4,5] false [3] (.enum (.var 3)) (.cons (.ife (.val (.cmp .Eq (.var 5) (.con (.str "x")))) (.cons (.app 1 [2,4] (.tup (.cons (.var 2) (.cons (.var 4) .nil)))) .nil) .nil) .nil)) .nil)) (.cons (.ret [1] (.var 1)) .nil)))⟩
def d109:FD:=⟨1,1,(.cons (.ret [] (.lc2 (.var 0) (.enum (.var 0)) (.yes (.val (.cmp .Eq (.var 1) (.con (.str "x"))))) [])) .nil)⟩
def d24:FD:=⟨1,1,(.cons (.ret [] (.and (.bf (.isin "int") (.cons (.var 0) .nil)) (.not (.bf (.isin "bool") (.cons (.var 0) .nil))))) .nil)⟩
def d25:FD:=⟨4,2,(.cons (.ife (.or (.not (.val (.bf (.isin "tuple") (.cons (.var 1) .nil)))) (.val (.cmp .NotEq (.bf .len (.cons (.var 1) .nil)) (.con (.int 2))))) (.cons (.ret [] (.con (.bl false))) .nil) .nil) (.cons (.asg 2 false [] (.ix (.var 1) (.con (.int 0)))) (.cons (.asg 3 false [] (.ix (.var 1) (.con (.int 1)))) (.cons (.ife (.or (.not (.val (.call 24 (.cons (.var 2) .nil)))) (.not (.val (.call 24 (.cons (.var 3) .nil))))) (.cons (.ret [] (.con (.bl false))) .nil) .nil) (.cons (.ife (.or (.not (.val (.chn .LtE .Lt (.con (.int 0)) (.var 2) (.bf .len (.cons (.var 0) .nil))))) (.not (.val (.chn .LtE .Lt (.con (.int 0)) (.var 3) (.bf .len (.cons (.ix (.var 0) (.con (.int 0))) .nil)))))) (.cons (.ret [] (.con (.bl false))) .nil) .nil) (.cons (.ret [] (.cmp .Eq (.ix (.ix (.var 0) (.var 2)) (.var 3)) (.con (.str "x")))) .nil))))))⟩
def d26:FD:=⟨4,2,(.cons (.ife (.not (.val (.bf (.isin "tuple") (.cons (.var 1) .nil)))) (.cons (.ret [] (.con (.bl false))) .nil) .nil) (.cons (.ife (.not (.val (.bf .all (.cons (.lc (.call 25 (.cons (.var 1) (.cons (.var 0) .nil))) (.seq (.var 1)) .no [0]) .nil)))) (.cons (.ret [] (.con (.bl false))) .nil) .nil) (.cons (.asg 2 false [] (.lc (.ix (.var 0) (.con (.int 0))) (.seq (.var 1)) .no [])) (.cons (.asg 3 false [] (.lc (.ix (.var 0) (.con (.int 1))) (.seq (.var 1)) .no [])) (.cons (.ret [] (.and (.cmp .Eq (.var 2) (.bf .sset (.cons (.var 2) .nil))) (.cmp .Eq (.bf .lset (.cons (.var 3) .nil)) (.bf .len (.cons (.var 3) .nil))))) .nil)))))⟩
def d46:FD:=⟨4,1,(.cons (.asg 1 true [] (.lst .nil)) (.cons (.asg 2 false [] (.con (.int 1))) (.cons (.forr [3] true [0] (.seq (.var 0)) (.cons (.ife (.val (.cmp .Eq (.var 3) (.con (.str "x")))) (.cons (.app 1 [2] (.var 2)) .nil) .nil) (.cons (.asg 2 false [] (.bin .Mult (.var 2) (.con (.int 2)))) .nil))) (.cons (.ret [1] (.var 1)) .nil))))⟩
def J0:FD:=⟨9,2,(.cons (.hand 2 bt) .nil)⟩
def d110:FD:=⟨5,4,(.cons .never .nil)⟩
def d111:FD:=⟨3,1,(.cons .never .nil)⟩
def Lm:FD:=⟨3,1,(.cons (.asg 1 false [] (.lst (.cons (.lst (.cons (.dlit (.inl 0) (.con (.int 1))) .nil)) .nil))) (.cons (.forr [2] true [0] (.rvd (.var 0)) (.cons (.asg 1 false [] (.bin .Add (.lst (.cons (.call 47 (.cons (.ix (.var 1) (.con (.int 0))) (.cons (.call 46 (.cons (.var 2) .nil)) .nil))) .nil)) (.var 1))) .nil)) (.cons (.ret [1] (.var 1)) .nil)))⟩
def Ll:FD:=⟨1,1,(.cons (.ret [] (.ite (.val (.cmp .Gt (.bf .len (.cons (.var 0) .nil)) (.con (.int 0)))) (.bin .Add (.ix (.ix (.var 0) (.neg (.con (.int 1)))) (.con (.int 0))) (.con (.int 1))) (.con (.int 0)))) .nil)⟩
def Lk:FD:=⟨1,1,(.cons (.ret [0] (.lc (.ix (.var 0) (.con (.int 1))) (.seq (.var 0)) .no [])) .nil)⟩
def JL:FD:=⟨6,3,(.cons (.asg 3 false [] (.ix (.var 0) (.call 164 (.cons (.var 1) .nil)))) (.cons (.asg 4 false [] (.bin .Sub (.var 2) (.bf .len (.cons (.var 1) .nil)))) (.cons (.ife (.not (.val (.chn .LtE .Lt (.con (.int 0)) (.var 4) (.bf .len (.cons (.var 3) .nil))))) (.cons (.ret [] (.con (.int 0))) .nil) .nil) (.cons (.asg 5 false [] (.bf .sum (.cons (.lc (.bin .LShift (.con (.int 1)) (.var 0)) (.seq (.call 165 (.cons (.var 1) .nil))) .no []) .nil))) (.cons (.ret [] (.bf .sum (.cons (.lci (.ix (.var 3) (.var 4)) 5) .nil))) .nil)))))⟩
def Lj:FD:=⟨9,3,(.cons (.asg 3 false [] (.call 163 (.cons (.var 0) .nil))) (.cons (.ife (.not (.val (.chn .LtE .Lt (.con (.int 0)) (.var 2) (.call 166 (.cons (.var 3) (.cons (.tup .nil) (.cons (.var 1) .nil))))))) (.cons (.rais "NoPlacing") .nil) .nil) (.cons (.asg 4 false [] (.tup .nil)) (.cons (.asg 5 false [2] (.var 2)) (.cons (.forr [6] true [] (.seq (.call 3 (.cons (.var 0) .nil))) (.cons (.asg 7 false [] (.bin .Add (.var 4) (.tup (.cons (.var 6) .nil)))) (.cons (.ife (.val (.call 26 (.cons (.var 0) (.cons (.var 7) .nil)))) (.cons (.asg 8 false [] (.call 166 (.cons (.var 3) (.cons (.var 7) (.cons (.var 1) .nil))))) (.cons (.ife (.val (.cmp .Lt (.var 5) (.var 8))) (.cons (.asg 4 false [7] (.var 7)) .nil) (.cons (.aug 5 .Sub (.var 8)) .nil)) .nil)) .nil) .nil))) (.cons (.ret [4] (.var 4)) .nil))))))⟩
def Li:FD:=⟨2,2,(.cons (.ret [0,1] (.bin .Add (.bf .tuple (.cons (.lc (.var 0) (.seq (.var 0)) (.yes (.val (.cmp .Lt (.var 0) (.var 1)))) [1]) .nil)) (.tup (.cons (.var 1) .nil)))) .nil)⟩
def Lh:FD:=⟨4,2,(.cons (.ife (.not (.val (.call 26 (.cons (.var 0) (.cons (.var 1) .nil))))) (.cons (.rais "NoPlacing") .nil) .nil) (.cons (.asg 2 false [] (.call 163 (.cons (.var 0) .nil))) (.cons (.asg 3 false [] (.lc (.call 168 (.cons (.var 1) (.cons (.var 0) .nil))) (.seq (.call 3 (.cons (.var 0) .nil))) (.yes (.val (.cmp .NotIn (.var 0) (.var 1)))) [1])) (.cons (.ret [] (.bf .sum (.cons (.lc (.call 166 (.cons (.var 3) (.cons (.var 0) (.cons (.bf .len (.cons (.var 2) .nil)) .nil)))) (.seq (.var 3)) (.yes (.val (.call 26 (.cons (.var 1) (.cons (.var 0) .nil))))) [0,1,2]) .nil))) .nil))))⟩
def d173:FD:=⟨2,2,(.cons .never .nil)⟩
def d174:FD:=⟨5,3,(.cons .never .nil)⟩
def d175:FD:=⟨7,4,(.cons .never .nil)⟩
def d176:FD:=⟨4,2,(.cons (.ife (.not (.val (.call 26 (.cons (.var 0) (.cons (.var 1) .nil))))) (.cons (.rais "NoPlacing") .nil) .nil) (.cons (.forr [2] true [] (.rng (.cons (.bin .Sub (.bf .len (.cons (.var 1) .nil)) (.con (.int 1))) (.cons (.neg (.con (.int 1))) (.cons (.neg (.con (.int 1))) .nil)))) (.cons (.asg 3 false [] (.call 175 (.cons (.var 0) (.cons (.sl (.var 1) .no (.yes (.var 2))) (.cons (.ix (.var 1) (.var 2)) (.cons (.bf .len (.cons (.var 1) .nil)) .nil)))))) (.cons (.ife (.val (.cmp .Eq (.bf .len (.cons (.var 3) .nil)) (.bf .len (.cons (.var 1) .nil)))) (.cons (.ret [3] (.var 3)) .nil) .nil) .nil))) (.cons (.ret [] (.con .non)) .nil)))⟩
def d4:FD:=⟨2,2,(.cons (.ife (.val (.cmp .Lt (.var 1) (.bf .len (.cons (.var 0) .nil)))) (.cons (.ret [] (.ix (.var 0) (.var 1))) .nil) .nil) (.cons (.ret [] (.con (.int 0))) .nil))⟩
def d5:FD:=⟨3,2,(.cons (.asg 2 false [] (.bin .Mod (.bin .Add (.bin .Add (.bin .Mult (.bin .Mod (.var 0) (.con (.int 2147483647))) (.con (.int 39373))) (.bin .Mult (.bin .Mult (.con (.int 7877)) (.var 1)) (.var 1))) (.con (.int 60493))) (.con (.int 2147483647)))) (.cons (.asg 2 false [] (.bin .Mod (.bin .Mult (.var 2) (.var 2)) (.con (.int 2147483629)))) (.cons (.ret [2,1,2] (.bin .Mod (.bin .Mult (.bin .Add (.bin .Mult (.var 2) (.con (.int 48271))) (.var 1)) (.var 2)) (.con (.int 2147483587)))) .nil)))⟩
def d20:FD:=⟨3,1,(.cons (.ife (.val (.cmp .GtE (.var 0) (.bin .LShift (.con (.int 1)) (.con (.int 64))))) (.cons (.ret [0] (.bin .Sub (.var 0) (.bin .LShift (.con (.int 1)) (.con (.int 64))))) .nil) .nil) (.cons (.asg 1 false [] (.con (.int 0))) (.cons (.forr [2] true [] (.rng (.cons (.con (.int 8)) .nil)) (.cons (.asg 1 false [] (.bin .Add (.bin .Mult (.var 1) (.con (.int 2147483587))) (.call 5 (.cons (.var 0) (.cons (.bin .Add (.bin .Mult (.con (.int 7)) (.var 2)) (.con (.int 3))) .nil))))) .nil)) (.cons (.ret [1] (.var 1)) .nil))))⟩
def d62:FD:=⟨12,3,(.cons (.asg 3 false [] (.bin .Add (.con (.int 1)) (.bin .Mod (.var 0) (.var 2)))) (.cons (.asg 4 false [] (.bin .Add (.con (.int 1)) (.bin .Mod (.bin .FloorDiv (.var 0) (.con (.int 8))) (.var 2)))) (.cons (.asg 5 false [] (.bin .Add (.con (.int 1)) (.bin .Mod (.bin .FloorDiv (.var 0) (.con (.int 64))) (.con (.int 8))))) (.cons (.asg 6 true [] (.lst .nil)) (.cons (.forr [7] true [] (.rng (.cons (.var 3) .nil)) (.cons (.asg 8 false [] (.con (.str ""))) (.cons (.forr [9] true [] (.rng (.cons (.var 4) .nil)) (.cons (.asg 10 false [] (.bin .Add (.bin .Mult (.var 4) (.var 7)) (.var 9))) (.cons (.asg 11 false [] (.cmp .Eq (.bin .Mod (.bin .FloorDiv (.var 1) (.bin .LShift (.con (.int 1)) (.var 10))) (.con (.int 2))) (.con (.int 1)))) (.cons (.ife (.val (.cmp .Lt (.var 1) (.bin .LShift (.con (.int 1)) (.con (.int 64))))) (.cons (.asg 11 false [] (.cmp .Lt (.bin .Mod (.call 5 (.cons (.var 1) (.cons (.var 10) .nil))) (.con (.int 8))) (.var 5))) .nil) .nil) (.cons (.asg 8 false [8] (.bin .Add (.var 8) (.ix (.lst (.cons (.con (.str ".")) (.cons (.con (.str "x")) .nil))) (.bf .int (.cons (.var 11) .nil))))) .nil))))) (.cons (.app 6 [8] (.var 8)) .nil)))) (.cons (.ret [6] (.bf .tuple (.cons (.var 6) .nil))) .nil))))))⟩
def d66:FD:=⟨4,1,(.cons (.asg 1 true [] (.lst .nil)) (.cons (.forr [2] true [] (.rng (.cons (.bf .len (.cons (.var 0) .nil)) .nil)) (.cons (.forr [3] true [] (.rng (.cons (.bf .len (.cons (.ix (.var 0) (.con (.int 0))) .nil)) .nil)) (.cons (.ife (.val (.cmp .Eq (.ix (.ix (.var 0) (.var 2)) (.var 3)) (.con (.str "x")))) (.cons (.app 1 [2,3] (.tup (.cons (.var 2) (.cons (.var 3) .nil)))) .nil) .nil) .nil)) .nil)) (.cons (.ret [1] (.var 1)) .nil)))⟩
def d8:FD:=⟨1,1,(.cons (.ret [] (.and (.bf (.isin "int") (.cons (.var 0) .nil)) (.not (.bf (.isin "bool") (.cons (.var 0) .nil))))) .nil)⟩
def d9:FD:=⟨2,2,(.cons (.ife (.val (.cmp .Is (.var 1) (.con .non))) (.cons (.ret [] (.cmp .Is (.var 0) (.con .non))) .nil) .nil) (.cons (.ife (.val (.bf (.isin "tuple") (.cons (.var 1) .nil))) (.cons (.ret [] (.and (.bf (.isin "tuple") (.cons (.var 0) .nil)) (.and (.cmp .Eq (.bf .len (.cons (.var 0) .nil)) (.bf .len (.cons (.var 1) .nil))) (.call 10 (.cons (.bf .list (.cons (.var 0) .nil)) (.cons (.bf .list (.cons (.var 1) .nil)) .nil)))))) .nil) .nil) (.cons (.ife (.val (.bf (.isin "list") (.cons (.var 1) .nil))) (.cons (.ret [] (.and (.bf (.isin "list") (.cons (.var 0) .nil)) (.and (.cmp .Eq (.bf .len (.cons (.var 0) .nil)) (.bf .len (.cons (.var 1) .nil))) (.call 10 (.cons (.var 0) (.cons (.var 1) .nil)))))) .nil) .nil) (.cons (.ife (.val (.bf (.isin "str") (.cons (.var 1) .nil))) (.cons (.ret [] (.and (.bf (.isin "str") (.cons (.var 0) .nil)) (.cmp .Eq (.var 0) (.var 1)))) .nil) .nil) (.cons (.ret [] (.and (.call 8 (.cons (.var 0) .nil)) (.cmp .Eq (.var 0) (.var 1)))) .nil)))))⟩
def d10:FD:=⟨4,2,(.cons (.forr [2,3] false [0,1] (.zip (.var 0) (.var 1)) (.cons (.ife (.not (.val (.call 9 (.cons (.var 2) (.cons (.var 3) .nil))))) (.cons (.ret [] (.con (.bl false))) .nil) .nil) .nil)) (.cons (.ret [] (.con (.bl true))) .nil))⟩
def Lf:FD:=⟨6,3,(.cons (.asg 3 true [] (.lst .nil)) (.cons (.asg 4 false [] (.call 66 (.cons (.var 0) .nil))) (.cons (.whil (.and (.val (.cmp .Lt (.bf .len (.cons (.var 3) .nil)) (.var 2))) (.val (.cmp .NotEq (.var 4) (.lst .nil)))) (.cons (.asg 5 false [] (.ix (.var 4) (.bin .Mod (.var 1) (.bf .len (.cons (.var 4) .nil))))) (.cons (.asg 1 false [] (.bin .FloorDiv (.var 1) (.bf .len (.cons (.var 4) .nil)))) (.cons (.app 3 [5] (.var 5)) (.cons (.asg 4 false [] (.lc (.var 0) (.seq (.var 4)) (.yes (.and (.val (.cmp .NotEq (.ix (.var 0) (.con (.int 0))) (.ix (.var 1) (.con (.int 0))))) (.val (.cmp .NotEq (.ix (.var 0) (.con (.int 1))) (.ix (.var 1) (.con (.int 1))))))) [5])) .nil))))) (.cons (.ret [3] (.bf .tuple (.cons (.bf .sorted (.cons (.var 3) .nil)) .nil))) .nil))))⟩
def Jz:FD:=⟨8,1,(.cons (.hand 1 jw) .nil)⟩
def d203:FD:=⟨2,1,(.cons .never .nil)⟩
def E9:FD:=⟨5,3,(.cons (.ret [] (.call 20101 (.cons (.var 0) (.cons (.var 1) (.cons (.var 2) .nil))))) .nil)⟩
def E8:FD:=⟨5,3,(.cons (.drop (.cmp .Is (.var 2) (.con (.bl true)))) (.cons (.ret [] (.call 20100 (.cons (.var 0) (.cons (.var 1) .nil)))) .nil))⟩
def Le:FD:=⟨4,2,(.cons (.asg 2 true [] (.lst .nil)) (.cons (.forr [3] true [] (.seq (.call 66 (.cons (.var 0) .nil))) (.cons (.ife (.val (.cmp .Gt (.bf .len (.cons (.lc (.var 0) (.seq (.var 1)) (.yes (.or (.val (.cmp .Eq (.ix (.var 0) (.con (.int 0))) (.ix (.var 1) (.con (.int 0))))) (.val (.cmp .Eq (.ix (.var 0) (.con (.int 1))) (.ix (.var 1) (.con (.int 1))))))) [3]) .nil)) (.con (.int 0)))) (.cons (.app 2 [] (.bf .tuple (.cons (.bf .sorted (.cons (.bin .Add (.bf .list (.cons (.var 1) .nil)) (.lst (.cons (.var 3) .nil))) .nil)) .nil))) .nil) .nil) .nil)) (.cons (.ret [2] (.var 2)) .nil)))⟩
def dP:FD:=⟨6,3,(.cons (.asg 3 true [] (.lst (.cons (.bf .list (.cons (.var 1) .nil)) (.cons (.bin .Add (.var 1) (.tup (.cons (.tup (.cons (.bf .len (.cons (.var 0) .nil)) (.cons (.con (.int 0)) .nil))) .nil))) (.cons (.bin .Add (.var 1) (.tup (.cons (.tup (.cons (.bin .Sub (.bf .len (.cons (.var 0) .nil)) (.con (.int 1))) (.cons (.bf .len (.cons (.ix (.var 0) (.con (.int 0))) .nil)) .nil))) .nil))) (.cons (.con .non) (.cons (.con (.str "x")) (.cons (.con (.int 0)) .nil)))))))) (.cons (.asg 3 true [3] (.bin .Add (.var 3) (.lst (.cons (.bin .Add (.tup (.cons (.tup (.cons (.neg (.con (.int 1))) (.cons (.con (.int 0)) .nil))) .nil)) (.var 1)) (.cons (.bin .Add (.var 1) (.tup (.cons (.con .non) .nil))) (.cons (.bin .Add (.var 1) (.tup (.cons (.tup (.cons (.con (.int 0)) .nil)) .nil))) (.cons (.tup (.cons (.tup (.cons (.con (.int 0)) (.cons (.neg (.con (.int 1))) .nil))) .nil)) (.cons (.tup (.cons (.tup (.cons (.bin .Sub (.bf .len (.cons (.var 0) .nil)) (.con (.int 1))) (.cons (.neg (.con (.int 1))) .nil))) .nil)) .nil)))))))) (.cons (.asg 3 true [3] (.bin .Add (.var 3) (.lst (.cons (.tup (.cons (.tup (.cons (.con (.int 0)) (.cons (.bin .Sub (.con (.int 0)) (.bf .len (.cons (.ix (.var 0) (.con (.int 0))) .nil))) .nil))) .nil)) (.cons (.tup (.cons (.tup (.cons (.con (.bl false)) (.cons (.con (.int 0)) .nil))) .nil)) (.cons (.tup (.cons (.tup (.cons (.con (.bl true)) (.cons (.con (.int 0)) .nil))) .nil)) (.cons (.tup (.cons (.tup (.cons (.con (.int 0)) (.cons (.con (.int 0)) (.cons (.con (.int 0)) .nil)))) .nil)) (.cons (.tup (.cons (.lst (.cons (.con (.int 0)) (.cons (.con (.int 0)) .nil))) .nil)) (.cons (.tup (.cons (.con (.int 0)) (.cons (.con (.int 0)) .nil))) (.cons (.tup (.cons (.con (.str "00")) .nil)) .nil)))))))))) (.cons (.asg 4 false [] (.call 206 (.cons (.var 0) (.cons (.var 1) .nil)))) (.cons (.ife (.val (.cmp .NotEq (.var 4) (.lst .nil))) (.cons (.app 3 [] (.ix (.var 4) (.bin .Mod (.var 2) (.bf .len (.cons (.var 4) .nil))))) .nil) .nil) (.cons (.ife (.val (.cmp .Gt (.bf .len (.cons (.var 1) .nil)) (.con (.int 1)))) (.cons (.app 3 [] (.bf .trev (.cons (.var 1) .nil))) .nil) .nil) (.cons (.forr [5] true [] (.rng (.cons (.bf .len (.cons (.var 0) .nil)) .nil)) (.cons (.ife (.val (.cmp .In (.con (.str ".")) (.ix (.var 0) (.var 5)))) (.cons (.app 3 [5] (.tup (.cons (.tup (.cons (.var 5) (.cons (.mth .index (.ix (.var 0) (.var 5)) (.cons (.con (.str ".")) .nil)) .nil))) .nil))) .nil) .nil) .nil)) (.cons (.ife (.and (.val (.cmp .Gt (.bf .len (.cons (.var 1) .nil)) (.con (.int 0)))) (.val (.cmp .Lt (.ix (.ix (.var 1) (.con (.int 0))) (.con (.int 1))) (.con (.int 2))))) (.cons (.app 3 [] (.bin .Add (.tup (.cons (.tup (.cons (.ix (.ix (.var 1) (.con (.int 0))) (.con (.int 0))) (.cons (.cmp .Eq (.ix (.ix (.var 1) (.con (.int 0))) (.con (.int 1))) (.con (.int 1))) .nil))) .nil)) (.sl (.var 1) (.yes (.con (.int 1))) .no))) .nil) .nil) (.cons (.ret [3] (.var 3)) .nil)))))))))⟩
def Ld:FD:=⟨9,1,(.cons (.asg 1 false [] (.call 62 (.cons (.call 4 (.cons (.var 0) (.cons (.con (.int 0)) .nil))) (.cons (.call 4 (.cons (.var 0) (.cons (.con (.int 1)) .nil))) (.cons (.con (.int 6)) .nil))))) (.cons (.asg 2 false [] (.call 64 (.cons (.var 1) .nil))) (.cons (.asg 3 false [] (.call 20 (.cons (.call 4 (.cons (.var 0) (.cons (.con (.int 2)) .nil))) .nil))) (.cons (.forr [4] true [] (.seq (.lst (.cons (.neg (.con (.int 1))) (.cons (.bf .len (.cons (.var 2) .nil)) (.cons (.bin .Add (.bf .len (.cons (.var 2) .nil)) (.bin .Mod (.var 3) (.bin .Pow (.con (.int 10)) (.con (.int 20))))) (.cons (.bin .Sub (.neg (.con (.int 2))) (.bin .Mod (.var 3) (.bin .Pow (.con (.int 10)) (.con (.int 20))))) .nil)))))) (.cons (.forr [5] true [3] (.seq (.lst (.cons (.con (.int 0)) (.cons (.neg (.con (.int 1))) (.cons (.con (.int 1)) (.cons (.var 3) .nil)))))) (.cons (.ife (.not (.val (.call 204 (.cons (.var 1) (.cons (.var 4) (.cons (.var 5) .nil)))))) (.cons (.ret [] (.con (.bl false))) .nil) .nil) .nil)) .nil)) (.cons (.asg 6 false [] (.call 170 (.cons (.var 1) (.cons (.bin .FloorDiv (.var 3) (.con (.int 7))) (.cons (.bin .Mod (.var 3) (.con (.int 7))) .nil))))) (.cons (.asg 7 false [] (.ix (.var 2) (.bf .len (.cons (.var 6) .nil)))) (.cons (.forr [5] true [7] (.seq (.lst (.cons (.neg (.con (.int 1))) (.cons (.var 7) (.cons (.bin .Add (.var 7) (.bin .Mod (.var 3) (.bin .Pow (.con (.int 10)) (.con (.int 20))))) (.cons (.bin .Sub (.neg (.con (.int 1))) (.bin .Mod (.var 3) (.bin .Pow (.con (.int 10)) (.con (.int 20))))) .nil)))))) (.cons (.ife (.not (.val (.call 204 (.cons (.var 1) (.cons (.bf .len (.cons (.var 6) .nil)) (.cons (.var 5) .nil)))))) (.cons (.ret [] (.con (.bl false))) .nil) .nil) .nil)) (.cons (.forr [8] true [] (.seq (.call 207 (.cons (.var 1) (.cons (.var 6) (.cons (.call 5 (.cons (.var 3) (.cons (.con (.int 3)) .nil))) .nil))))) (.cons (.ife (.or (.not (.val (.call 205 (.cons (.var 1) (.cons (.var 8) (.cons (.con (.bl false)) .nil)))))) (.not (.val (.call 205 (.cons (.var 1) (.cons (.var 8) (.cons (.con (.bl true)) .nil))))))) (.cons (.ret [] (.con (.bl false))) .nil) .nil) .nil)) (.cons (.ret [] (.call 9 (.cons (.call 167 (.cons (.var 1) (.cons (.bf .len (.cons (.var 6) .nil)) (.cons (.call 169 (.cons (.var 1) (.cons (.var 6) .nil))) .nil)))) (.cons (.var 6) .nil)))) .nil)))))))))⟩
def P:Nat->Option FD:=λn=>match n with
 |3=>some d3|4=>some d4|5=>some d5|8=>some d8|9=>some d9|10=>some d10|20=>some d20|24=>some d24|25=>some d25|26=>some d26|46=>some d46|47=>some J0|62=>some d62|64=>some Jz|66=>some d66|109=>some d109|110=>some d110|111=>some d111|163=>some Lm|164=>some Ll|165=>some Lk|166=>some JL|167=>some Lj|168=>some Li|169=>some Lh|170=>some Lf|173=>some d173|174=>some d174|175=>some d175|176=>some d176|203=>some d203|204=>some E9|205=>some E8|206=>some Le|207=>some dP|208=>some Ld|20100=>some ⟨4,2,.cons (.ife (.not (.val (.call 26 (.cons (.var 0) (.cons (.var 1) .nil))))) (.cons (.ret [] (.con (.bl true))) .nil) .nil) (.cons .never .nil)⟩|20101=>some ⟨9,3,.cons (.asg 3 false [] (.call 163 (.cons (.var 0) .nil))) (.cons (.ife (.not (.val (.chn .LtE .Lt (.con (.int 0)) (.var 2) (.call 166 (.cons (.var 3) (.cons (.tup .nil) (.cons (.var 1) .nil))))))) (.cons (.ret [] (.con (.bl true))) .nil) .nil) (.cons .never .nil))⟩|_=>none
end Law
namespace Law
open PySem IR L2
local macro_rules | `(tactic| walk_at "ev") => do
  let ids <- ("sc Option.bind_some Option.map_some Option.bind_none List.length_cons List.length_nil if_true if_false Nat.reduceAdd Nat.reduceSub List.map_cons List.map_nil List.replicate List.append_nil List.cons_append List.nil_append imm imms bK eY l5 B9 ly CA JD IK List.getD_cons_zero List.getD_cons_succ at_0 at_1 DV dk cq dL dc dN dm dq dZ dh dU dO de dS dQ di cZ dR dg df Fu zo KJ KI ze zq zf zp GS GR DH DJ DG DK DI fk DQ DO Bh Bg Ec EZ EX Ez Iw Iy Ix Bc xG iN oB Et xP B1 FY FP FS FU FT FQ FR FW JN JO JP JQ FJ FG FE List.set_cons_zero List.set_cons_succ K2 HE HF ef DW AJ Ci Bp Di Dk Dh Dj JV Fc Fb Co Cp zP zQ Cj zO wR JW Cm FZ Fa Cn vG FF Kq setU ix_L ix_T ix_O ix_S oy du Gd Gc Ge Gf ve vg vd vf vc eq_self decide_true decide_false sr vO sv sq su sj vN pW sx pY pV pX pU sw si sh pT pR pS mn pQ mr mj mq mi pP reduceCtorEq bne_self_eq_false beq_self_eq_true Bool.true_bne Bool.bne_true Bool.false_bne Bool.bne_false LN Nat.reduceLeDiff Nat.reduceLT Nat.reducePow Int.reduceLT Int.reduceLE Int.reducePow Int.reduceNeg Int.natAbs_one and_self true_and and_true or_true true_or reduceIte Bool.not_true Bool.not_false Bool.and_true Bool.or_true Bool.or_false Bool.true_or Bool.false_or Bool.true_and Bool.and_false Bool.false_and Bool.false_eq_true keeps mf pK List.getElem?_cons_zero List.getElem?_cons_succ".splitOn " ").toArray.mapM fun s => do
   let i := Lean.mkIdent s.toName
   `(Lean.Parser.Tactic.simpLemma| $i:ident)
  `(tactic| (try simp -implicitDefEqProofs only [$ids,*]))
local macro_rules | `(tactic| walk_at "go") => `(tactic| (walk_at "ev"; repeat (rw [Ma (by first | omega | assumption | decide)]; walk_at "ev")))
set_option tactic.hygienic false
theorem c4(k:Nat)(a:List Int)(j:Nat):aC P (k+1) 4 [.lst (a.map .int),.int j]=some (.int (a.getD j 0)):=by
 refine run rfl rfl ?_;simp only[d4,entry];walk_at "ev"
 by_cases h:j<a.length
 .have b:(j:Int)<((a.map PV.int).length:Nat):=by rw[MT];omega
  have c:ck (a.map PV.int) j=some (.int a[j]):=bD (by rw[Mp,Mk h];rfl);simp only[b,decide_true,PN,c];walk_at "ev";simp[h]
 .have b:¬(j:Int)<((a.map PV.int).length:Nat):=by rw[MT];omega
  simp only[b,decide_false];walk_at "ev";simp[h]
theorem c5(k:Nat)(c j:Int)(d:0<=j)(e:j<=1000000):∃r:Int,0<=r/\r<2147483587/\aC P (k+1) 5 [.int c,.int j]=some (.int r):=by
 obtain⟨v,h,r,a,b,rfl⟩:∃v,aC P (k+1) 5 [.int c,.int j]=some v/\∃r,0<=r/\r<2147483587/\v=.int r:=by refine nR rfl rfl ?_;simp only[d5,entry];walk_at "go";exact⟨_,rfl,_,PP _ (by decide),PR _ (by decide),rfl⟩
 exact⟨r,a,b,h⟩
section
open PySem.Spec PyProof.Rows
theorem Km:az N47 ["levels","bits"] (aJ s47):=⟨rfl,rfl,rfl,by decide +kernel,rfl,by decide +kernel,by decide +kernel⟩
set_option tactic.hygienic true in
theorem zr{k:Nat}(i:f 47=some J0)(h:aC f (k+1) 47 d=some r):bt d=some r:=by
 unfold aC at h;rw[i]at h;simp only[M5]at h
 split at h
 .rename_i c
  obtain⟨a,b,rfl⟩:=IL c
  .simp only[J0,zm,zn,jB,entry]at h
   have e:((List.map (λv=>TV.frz v (imm v)) [a,b]++List.replicate (9-[a,b].length) TV.un).take 2).map TV.valD=[a,b]:=rfl;rw[e]at h;cases g:bt [a,b]with
   |none=>rw[g]at h;cases h|some v=>rw[g]at h;cases h;rfl
 .cases h
theorem GT(h:bt a=some r):a.length=2:=by
 unfold bt at h
 split at h;rfl;cases h
abbrev jW1(H:Hp)(e:Addr)(a:List au)(i m:Nat)(c:List V)(d :Hp):Prop:=m=a.length-i/\i<=a.length/\∃b,c=b.map V.ref/\uR H e b (a.take i) d
abbrev jW2(H:Hp)(h n f:Addr)(l:List Addr)(j:List au)(B:List Int)(i:Nat)(m:L2.St)(G:Hp):Prop:=∃a b c d e g,m=[some (.ref h),some (.ref n),some (.ref f),a,b,c,d,e,g]/\uR H f l (wl j B i) G
abbrev jW3(H:Hp)(h p b:Addr)(l:List Addr)(c:List au)(B:List Int)(i:Nat)(a n:Addr)(o:Obj)(ct m:au)(j:Nat)(f:L2.St)(G:Hp):Prop:=∃d e g,f=[some (.ref h),some (.ref p),some (.ref b),some (.int (i:Nat)),some (.ref a),some (.ref n),d,e,g]/\G a=some (.frz o (.dK (bO ct)))/\uR H b l ((wl c B i).set (i+1) ((ct.take j).foldl (cu B) m)) (L2.upd G a (.dK (bO ct)))
abbrev jW4(H:Hp)(j p b:Addr)(m:List Addr)(e:List au)(B:List Int)(i:Nat)(a n:Addr)(o:Obj)(ct:au)(c d:Int)(h:au)(l:Nat)(f:L2.St)(G:Hp):Prop:=∃g,f=[some (.ref j),some (.ref p),some (.ref b),some (.int (i:Nat)),some (.ref a),some (.ref n),some (.int c),some (.int d),g]/\G a=some (.frz o (.dK (bO ct)))/\uR H b m ((wl e B i).set (i+1) ((B.take l).foldl (bv c d) h)) (L2.upd G a (.dK (bO ct)))
set_option tactic.hygienic true in
theorem Iu{K:W.Frag}(hdi:mg "dict"=none)(hen:mg "enumerate"=none)(D:uT K mg "with_line" s47 ["levels","bits"] f fd)(p:Program)(w:World)(base:Heap)(k:Nat)(_:∀y g,F.lookup y=some g->∃b gd qs,mg y=some (.ref b)/\W.keepIn K (.ref b)=true/\Binds K gd qs []/\bQ p w K mg base iw k b gd qs (uO K (aC P k g))):bQ p w K mg base iw (k+1) f fd ["levels","bits"] (uO K (aC P (k+1) 47)):=by
 refine D.fn.ok Km (λvs H Q E h=> ?_) (λcdv A outer s H vs Q E hr h=> ?_)
 .obtain⟨pvs,r,h1,h2,_⟩:=h
  rw[<- h1.len];exact GT (zr rfl h2)
 obtain⟨pvs,r,h1,h2,q⟩:=h
 replace h2:=zr rfl h2
 unfold bt at h2
 split at h2
 case h_2=>cases h2
 rename_i ls bs;cases e1:qo ls with
 |none=>rw[e1]at h2;cases h2|some Ls =>
 cases e2:aY bs with
 |none=>rw[e1,e2]at h2;cases h2|some B =>
 rw[e1,e2]at h2;dsimp only[Option.bind]at h2
 split at h2
 case isFalse=>cases h2
 rename_i hz;cases h2;obtain⟨z1,z2,z3⟩:=hz;have z3:=λc hc=>by simpa using Mn.mp z3 c hc
 have hls:=qm e1;subst hls;obtain⟨u1,_,rfl,r1,h1⟩:=h1;obtain⟨u2,_,rfl,r2,h1⟩:=h1;subst h1;obtain⟨Lv,us,rfl,_,sqL,rl⟩:=Rp.lst.mp r1;obtain⟨Bt,bu,rfl,_,sqB,rb⟩:=Rp.lst.mp r2;rw[lh e2]at rb;have eb:=aG.ints.mp rb;subst eb;have lv:∀(i:Nat)(c:au),Ls[i]? =some c->∃a,us[i]? =some (.ref a)/\H a=some (.dK (bO c)):=λi c hc=>by obtain⟨u,hu,ru⟩:=rl.at (i:=i) (x:=jy c) (by rw[Mp,hc];rfl);obtain⟨a,rfl,ha⟩:=G7 ru;exact⟨a,hu,br _ _ ha⟩
 have ulen:us.length=Ls.length:=by have:=rl.len;simpa using this.symm
 have nd:=Km.nd;have hu:=GG hr;have hs:=NR
 refine⟨_,aZ (b8 (i:=2) nd rfl (Or.inl rfl) (fC Ho (A8 (N' :=["level"]) (src:=[none]) rfl (iA (pv 0)) True.intro rfl (by decide +kernel) (by decide +kernel) rfl) (gW (aF rj aK))))
  (aZ (fS OA rfl (rg rfl hen (aF (pv 0) aK)) (lD rfl (b9 (av (i:=3) nd rfl (Or.inl rfl)) (b9 (av (i:=4) nd rfl (Or.inl rfl)) iB))) (aZ (b8 (i:=5) nd rfl (Or.inl rfl) (rh ft (pv 2) (fC lF (pv 3) cz) (λ_ _=>rfl))) (ae (Dv (fS OA rfl (sM (pv 4)) (lD rfl (b9 (av (i:=6) nd rfl (Or.inl rfl)) (b9 (av (i:=7) nd rfl (Or.inl rfl)) iB))) (ae (fS OA rfl (iA (pv 1)) (av (i:=8) nd rfl (Or.inl rfl)) (ae (rV (hJ wv (fC BE (pv 6) (pv 8)) cz (lH _)) (ae (wf hu (pv 5) (fC GB (pv 6) (pv 8)) (fC lF (rm hu (pv 5) (fC GB (pv 6) (pv 8)) cz ⟨rfl,rfl,rfl,rfl⟩) (pv 7)) rfl)) pA))))))))) (ae (jW (pv 2)))),?_⟩
 refine⟨_,rfl,Lv,rfl,⟨_,sqL⟩,λD0 hD0=> ?_⟩;refine⟨jW1 H D0 Ls,⟨Ls.length,by simp,M6 _,[],rfl,⟨aI hD0 _,hD0,aB,by simp,by simp,by simp,λq d c e=>by simp at e⟩⟩,?_⟩;rintro i m ys H' ⟨rfl,hi,ds,rfl,st⟩
 by_cases hlt:i<Ls.length
 .right
  have ec:Ls[i]? =some Ls[i]:=by simp[hlt]
  obtain⟨a,ua,ha⟩:=lv i _ ec;refine⟨⟨us,.ref a,st.1.seq sqL,ua⟩,λx H1 y=> ?_⟩;obtain⟨rfl,y⟩:=y;have ex:=y us (st.1.seq sqL);rw[ua]at ex;cases ex;intro C s2 H2 fp cl;refine⟨tH 0,Fz,_,av (by simp) rfl (.inl rfl) (.inr rfl),lC,bw t5 rfl hdi boot_dict (aF (pv 0) aK),?_⟩;refine⟨uD rfl,?_⟩;refine⟨_,rfl,a,_,rfl,.inl (st.1 _ _ ha),λpn hpn=> ?_⟩;have dl:ds.length=i:=by rw[st.2.2.2.2.2.1,OU];omega
  refine⟨by rw[aA (aE st.2.2.1 hpn)];exact st.2.2.1,by rw[MT];omega,Ls.length-(i+1),by omega,rfl,hlt,ds++[pn],by rw[Mr];rfl,?_⟩;have e:Ls.take (i+1)=Ls.take i++[Ls[i]]:=by rw[Og,ec];rfl
  rw[e];exact st.push hpn
 .left
  have ei:i=Ls.length:=by omega
  subst ei;rw[OG]at st;refine⟨⟨us,st.1.seq sqL,by omega⟩,?_⟩;intro p0 hp0;refine⟨by show 1<=sizeLine;decide,λl hl=> ?_⟩;have s1:=aI hp0 (.dK []);have s2:=aI hl (.lst [.ref p0]);refine⟨D0,l,ds.map V.ref,[.ref p0],rfl,rfl,s2 _ _ (s1 _ _ st.2.2.1),aB,by rw[MT,st.2.2.2.2.2.1,hs];simp;omega,λAa hAa=> ?_⟩;have stA:uR H Aa (ds++[p0]) (wl Ls B 0) (L2.upd (L2.upd (L2.upd H' p0 (.dK [])) l (.lst [.ref p0])) Aa (.lst (ds.map V.ref++[.ref p0]))):=by
   have hDp:D0≠p0:=aE st.2.2.1 hp0;have hAl:Aa≠l:=λz=>by rw[z,aB]at hAa;cases hAa
   have hA1:L2.upd H' p0 (.dK []) Aa=none:=by rwa[aA hAl]at hAa
   have hAp:Aa≠p0:=λz=>by rw[z,aB]at hA1;cases hA1
   have hA0:H' Aa=none:=by rwa[aA hAp]at hA1
   obtain⟨g1,g2,g3,g4,g5,g6,g7⟩:=st.push (p:=p0) (c:=[]) hp0;have hlD:l≠D0:=λz=>by rw[z,aA hDp,st.2.2.1]at hl;cases hl
   have hlp:l≠p0:=λz=>by rw[z,aB]at hl;cases hl
   have inn:∀(qq:Nat)(d:Addr)(c:au),(ds++[p0])[qq]? =some d->(Ls++[[]])[qq]? =some c->H d=none/\d≠Aa/\d≠l/\L2.upd H' p0 (.dK []) d=some (.dK (bO c)):=λqq d c w1 w2=>by obtain⟨m0,m1⟩:=g7 qq d c w1 w2;have dD:d≠D0:=λz=>g4 (z▸Mu w1);rw[aA dD]at m1;have m1:L2.upd H' p0 (.dK []) d=some (.dK (bO c)):=m1;exact⟨m0,(λz=>by rw[z,hA1]at m1;cases m1),(λz=>by rw[z,hl]at m1;cases m1),m1⟩
   refine⟨((st.1.trans s1).trans s2).trans (aI hAa _),st.1.free hA0,by rw[aB,Mr];rfl,λz=> ?_,g5,g6,λqq d c w1 w2=> ?_⟩
   .obtain⟨qq,hqq,e⟩:=List.mem_iff_getElem.mp z
    exact(inn qq Aa ((Ls++[[]])[qq]'(by rwa[<- g6])) (by rw[Mk hqq,e]) (by simp[])).2.1 rfl
   .obtain⟨m0,m1,m2,m3⟩:=inn qq d c w1 w2
    exact⟨m0,by rwa[aA m1,aA m2]⟩
  have sqB' :∀{G:Hp},aD H G->bH K G Bt (B.map V.int):=λs=>s.seq sqB;refine⟨_,rfl,Lv,us,rfl,(stA.1).seq sqL,B5 (jW2 H Lv Bt Aa (ds++[p0]) Ls B) ⟨_,_,_,_,_,_,rfl,stA⟩ (λi σ G _ ⟨_,_,_,_,_,_,_,st⟩=>st.1.seq sqL) ?_ ?_⟩
  .rintro i x pt σ G ex hpt ⟨a,b,c,d,e,g,rfl,st⟩
   have hi:=(Mh.mp ex).1;have ec:Ls[i]? =some (Ls[i]'(by omega)):=by simp[show i<Ls.length by omega]
   obtain⟨lev,ua,hlev⟩:=lv i _ ec;rw[ex]at ua;cases ua;obtain⟨ct,hct⟩:∃ct,ct=Ls[i]'(by omega):=⟨_,rfl⟩;rw[<- hct]at ec hlev;have ctl:=z3 ct (Mu ec);have wlen:=kW Ls B i;obtain⟨ab,hab⟩:∃ab,(ds++[p0])[i+1]? =some ab:=⟨(ds++[p0])[i+1]'(by rw[st.2.2.2.2.2.1,wlen];omega),by simp[]⟩;obtain⟨c0,hc0⟩:∃c0,(wl Ls B i)[i+1]? =some c0:=⟨(wl Ls B i)[i+1]'(by rw[wlen];omega),by simp[show i+1<(wl Ls B i).length by rw[wlen];omega]⟩;have st:=st.ext (aI hpt (.tup [.int (i:Nat),.ref lev]));refine⟨pt,_,rfl,bT.of aB,rfl,_,_,rfl,_,_,rfl,rfl,?_⟩;refine⟨_,rfl,_,rfl,_,_,rfl,rfl,Aa,_,_,.ref ab,rfl,rfl,bH.of st.2.2.1,?_,?_⟩
   .have:=bD (xs:=(ds++[p0]).map V.ref) (j:=i+1) (by rw[Mp,hab];rfl)
    exact this
   refine⟨_,rfl,lev,bO ct,rfl,st.1 _ _ hlev,λo nf=> ?_⟩;have abn:H ab=none:=(st.at hab hc0).1;have abl:ab≠lev:=λz=>by rw[z,hlev]at abn;cases abn
   obtain⟨G1,hG1⟩:∃G1,G1=L2.upd G pt (.tup [.int (i:Nat),.ref lev]):=⟨_,rfl⟩;rw[<- hG1]at st ⊢;have ini:L2.upd (L2.upd G1 lev (.frz o (.dK (bO ct)))) lev (.dK (bO ct))=G1:=by
    rw[DR]
    funext bb
    by_cases hb:bb=lev
    .subst hb
     rw[aB,st.1 _ _ hlev]
    .rw[aA hb]
   refine zE (jW3 H Lv Bt Aa (ds++[p0]) Ls B i lev ab o ct c0) ⟨_,_,_,rfl,aB,?_⟩ (λj σ G _ ⟨_,_,_,_,hf,_⟩=>hf) ?_ ?_
   .rw[ini]
    have e0:(wl Ls B i).set (i+1) c0=wl Ls B i:=by
     refine Oz λn=> ?_;rw[Ow]
     split
     .rename_i en
      subst en;rw[hc0,Ma (by rw[wlen];omega)]
     .rfl
    rwa[List.take_zero,List.foldl_nil,e0]
   .rintro j kk xx pp σ G2 ekv hpp ⟨d,e,g,rfl,hf,st2⟩
    obtain⟨tk,cn,etc,rfl,rfl⟩:=E4 ekv;have ppl:pp≠lev:=λz=>by rw[z,hf]at hpp;cases hpp
    refine⟨pp,_,rfl,bT.of aB,rfl,_,_,rfl,_,_,rfl,rfl,?_⟩;have st3:=st2.ext (yZ (o:=.tup [kV (Sum.inl tk),.int cn]) hpp ppl);obtain⟨cj,hcj⟩:∃cj,cj=(ct.take j).foldl (cu B) c0:=⟨_,rfl⟩;rw[<- hcj]at st3;have cjl:cj.length<=1000+1000*100+1000*100:=by
     have h0:c0.length<=1000:=by
      have:=Fv Ls B i (i+1) (by omega);rw[hc0]at this
      rcases M7.mp (Mu this.symm)with hm|hm
      .exact z3 c0 hm
      .have:c0=[]:=by simpa using hm
       rw[this];simp
     have h1:=oC B (ct.take j) c0;have h2:(ct.take j).length*B.length<=1000*100:=Nat.mul_le_mul (by rw[OU];omega) z2;rw[hcj];omega
    refine⟨_,rfl,Bt,rfl,⟨_,wP (sqB' st3.1)⟩,B4 (jW4 H Lv Bt Aa (ds++[p0]) Ls B i lev ab o ct tk cn cj) ⟨_,rfl,by rwa[aA (Nd ppl)],by rwa[List.take_zero,List.foldl_nil]⟩ (λl σ G _ ⟨_,_,_,st⟩=>wP (sqB' st.1)) ?_ ?_⟩
    .rintro l xb σ G3 exb ⟨g,rfl,hf3,st4⟩
     obtain⟨b,eb,rfl⟩:∃b,B[l]? =some b/\xb=.int b:=by
      rw[Mp]at exb;cases e:B[l]? with
      |none=>rw[e]at exb;cases exb|some b=>rw[e]at exb;exact⟨b,rfl,(Mx exb).symm⟩
     obtain⟨cur,hcur⟩:∃cur,cur=(B.take l).foldl (bv tk cn) cj:=⟨_,rfl⟩;have e7:(B.take (l+1)).foldl (bv tk cn) cj=bv tk cn cur b:=by rw[Og,eb,Ox,<-hcur];rfl
     rw[<- hcur]at st4;have curl:cur.length<sizeLine:=by have:=jb tk cn (B.take l) cj;rw[<- hcur,OU]at this;rw[hs];omega
     have hcs:((wl Ls B i).set (i+1) cur)[i+1]? =some cur:=by rw[Nm (by rw[wlen];omega)]
     obtain⟨_,hab1⟩:=st4.at hab hcs;rw[aA abl]at hab1;refine⟨_,rfl,_,rfl,_,_,rfl,rfl,rfl,_,rfl,Ef (λhc=> ?_) (λhc=> ?_)⟩
     .have hc:=V.int.inj (NA hc)
      obtain⟨old,hold⟩:∃old,old=(iL cur (Builtin.bitOr tk b)).getD 0:=⟨_,rfl⟩;refine⟨_,rfl,ab,rfl,.inl ⟨_,.inl hab1⟩,_,rfl,_,rfl,_,_,rfl,rfl,_,ju.k (k:=Sum.inl (Builtin.bitOr tk b)) hab1,_,rfl,old,cn,?_,rfl,?_⟩
      .rw[E3,hold]
       cases iL cur (Builtin.bitOr tk b)<;>rfl
      refine⟨_,rfl,_,rfl,_,rfl,_,_,rfl,rfl,ab,_,rfl,uM.k (k:=Sum.inl (Builtin.bitOr tk b)) hab1 (by rwa[tV]),_,rfl,?_,?_⟩
      .rw[aA (Nd abl)]
       exact hf3
      .have e8:bv tk cn cur b=jU cur (Builtin.bitOr tk b) (old+cn):=by
        unfold bv zT;rw[Ma hc,hold]
       rw[e7,e8,E2,zy abl];have:=st4.put (c' :=jU cur (Builtin.bitOr tk b) (old+cn)) hab;rwa[List.set_set]at this
     .refine⟨_,rfl,hf3,?_⟩;have e8:bv tk cn cur b=cur:=by unfold bv;rw[MY (λz=>hc (Mv (NG V.int z)))]
      rwa[e7,e8]
    .rintro σ G3 ⟨g,rfl,hf3,st4⟩
     refine⟨_,_,_,rfl,hf3,?_⟩;have e5:(ct.take (j+1)).foldl (cu B) c0=((B.take (B.map V.int).length).foldl (bv tk cn) cj):=by rw[Og,etc,Ox,<-hcj,MT,OG];rfl
     rwa[e5]
   .rintro σ G2 ⟨d,e,g,rfl,hf,st2⟩
    refine⟨lev,o,bO ct,hf,nf,_,_,_,_,_,_,rfl,?_⟩;have e6:(wl Ls B i).set (i+1) ((ct.take (bO ct).length).foldl (cu B) c0)=wl Ls B (i+1):=by rw[tV,OG,wl,Mf,hc0,Mf,ec];rfl
    rwa[<- e6]
  .rintro σ G ⟨a,b,c,d,e,g,rfl,st⟩
   refine⟨_,rfl,?_⟩;refine q _ _ st.1 (Rp.lst.mpr ⟨Aa,_,rfl,λ_=>⟨st.2.1,st.2.2.1⟩,bH.of st.2.2.1,?_⟩);rw[ulen]at st;refine rH st.2.2.2.2.2.1 λqq d' c' w1 w2=> ?_;obtain⟨m0,m1⟩:=st.at w1 w2;refine⟨m0,?_⟩;unfold del;rwa[MY (λz:d' =Aa=>st.2.2.2.1 (z▸Mu w1))]
end
def gN(a:List Nat)(i:Nat):List Int:=((List.range i).filter λc=>a.getD c 0==120).map λc=>((2^c:Nat):Int)
def mP(z:Str):List Int:=gN z.cps.toList z.length
theorem vq(a:List Nat)(i:Nat):gN a (i+1)=gN a i++(if a.getD i 0==120 then[((2^i:Nat):Int)]else[]):=by
 unfold gN;rw[Oe,OY,Mr];cases h:a.getD i 0==120
 .simp only[N7,List.filter_nil,h]
  rfl
 .simp only[N7,List.filter_nil,h]
  rfl
theorem oQ(a:List Nat)(i:Nat):(gN a i).length<=i:=by unfold gN;rw[MT];exact M8 (NM _ _) (by rw[NT];exact Mc _)
theorem vt(h:i<=8):mX (gN a i):=λb hb=>by unfold gN at hb;obtain⟨c,b,rfl⟩:=Md.mp hb;have:=ND.mp (NL.mp b).1;exact⟨c,rfl,by omega⟩
theorem c46(k:Nat)(z:Str)(o:z.length<=8):aC P (k+1) 46 [.str z]=some (.lst ((mP z).map .int)):=by
 refine cH rfl rfl ?_;simp only[d46,entry];walk_at "go";refine cN (xs:=signs z) (n:=true) ?_ (λi g=>∃a,g=[.frz (.str z) true,.own ((gN z.cps.toList i).map .int) true,.frz (.int ((2^i:Nat):Int)) true,a]) ⟨_,rfl⟩ ?_ ?_
 .walk_at "ev"
 .rintro i y g b ⟨a,rfl⟩
  have p:i<z.length:=by have:=(Mh.mp b).1;rwa[ci]at this
  obtain⟨c,m,rfl⟩:∃c,z.cps.toList[i]? =some c/\y=.str ⟨#[c]⟩:=by
   unfold signs at b;rw[Mp]at b;cases e:z.cps.toList[i]? with
   |none=>rw[e]at b;cases b|some c=>rw[e]at b;exact⟨c,rfl,(Mx b).symm⟩
  have l:z.cps.toList.getD i 0=c:=by rw[Mf,m];rfl
  refine⟨_,rfl,?_⟩;have d:=vq z.cps.toList i;rw[l]at d;have f:((gN z.cps.toList i).map PV.int).length<LN:=by rw[MT];have:=oQ z.cps.toList i;omega
  have j:((2^i:Nat):Int)*2=((2^(i+1):Nat):Int):=by rw[Nat.pow_succ];push_cast;rfl
  walk_at "ev";rw[jf];cases h:c==120 with
  |true =>rw[h]at d;walk_at "ev";rw[cK rfl f];walk_at "ev";exact⟨_,by rw[d,j,Mr];rfl⟩
  |false =>rw[h]at d;walk_at "ev";exact⟨.frz (.str ⟨#[c]⟩) true,by rw[d,j];simp⟩
 .rintro g ⟨a,rfl⟩
  rw[ci];walk_at "ev";rfl
theorem c47(k:Nat)(a:List au)(B:List Int)(d:a.length<=100)(b:B.length<=100)(h:∀c∈a,c.length<=1000):aC P (k+1) 47 [.lst (a.map jy),.lst (B.map .int)]=some (.lst ((wl a B a.length).map jy)):=by
 refine run rfl rfl ?_;have e:bt [.lst (a.map jy),.lst (B.map .int)]=some (.lst ((wl a B a.length).map jy)):=by unfold bt;dsimp only;rw[wI,gc];simp only[M5];rw[Ma ⟨d,b,by rw[Mn];intro c f;exact Mv (h c f)⟩]
 simp only[J0,zm,zn,jB,entry];have g:((List.map (λv=>TV.frz v (imm v)) [PV.lst (a.map jy),.lst (B.map .int)]++List.replicate (9-[PV.lst (a.map jy),.lst (B.map .int)].length) TV.un).take 2).map TV.valD=[.lst (a.map jy),.lst (B.map .int)]:=rfl;rw[g,e];rfl
def fL:List Str->List au
 |[]=>[[(0,1)]]|z::rs=>wl (fL rs) (mP z) (fL rs).length
def bX:List Str->List PV
 |[]=>[.lst ((fL []).map jy)]|z::rs=>.lst ((fL (z::rs)).map jy)::bX rs
theorem yQ(a:List Str):∃r,bX a=.lst ((fL a).map jy)::r:=by
 cases a with
 |nil=>exact⟨[],rfl⟩|cons z a=>exact⟨_,rfl⟩
theorem kf:∀a:List Str,(bX a).length=a.length+1
 |[]=>rfl|z::a=>by rw[bX,Mq,kf a,Mq]
theorem jN:∀{rs:List Str},(∀z∈rs,z.length<=8)->(fL rs).length=rs.length+1/\∀c∈fL rs,bJ c
 |[],_=>⟨rfl,λc hc=>by rw[My.mp hc];exact tE⟩
 |z::rs,h=>by obtain⟨b,a⟩:=jN λy hy=>h y (MW _ hy);refine⟨?_,oX (vt (h z MX)) a _⟩;show(wl _ _ _).length=_;rw[kW,b];rfl
theorem JT:cT .Add (.own b n) (.frz (.lst a) m)=mf (b++a) (n&&m):=rfl
theorem JS(k:Nat)(b:List Str)(I:b.length<=8)(g:∀z∈b,z.length<=8):aC P (k+2) 163 [.tup (b.map .str)]=some (.lst (bX b)):=by
 refine cH rfl rfl ?_;simp only[Lm,entry];walk_at "ev";rw[bN b];refine cN (xs:=(b.map PV.str).reverse) (n:=true) ?_ (λi f=>∃a,f=[.frz (.tup (b.map .str)) true,.frz (.lst (bX (b.drop (b.length-i)))) true,a]) ⟨.un,?_⟩ ?_ ?_
 .walk_at "ev"
 .rw[Nat.sub_zero,List.drop_length]
  rfl
 .rintro i y f d ⟨a,rfl⟩
  have D:i<b.length:=by have:=(Mh.mp d).1;rwa[OR,MT]at this
  obtain⟨z,l,rfl⟩:∃z,b[b.length-1-i]? =some z/\y=.str z:=by
   rw[List.getElem?_reverse (by rwa[MT]),MT,Mp]at d;cases e:b[b.length-1-i]? with
   |none=>rw[e]at d;cases d|some z=>rw[e]at d;exact⟨z,rfl,(Mx d).symm⟩
  have m:=Mu l;obtain⟨j,q⟩:∃j,j=b.length-1-i:=⟨_,rfl⟩;rw[<- q]at l;have v:b.drop j=z::b.drop (j+1):=by obtain⟨s,o⟩:=Mh.mp l;rw[Od s,o]
  have H:b.length-i=j+1:=by omega
  have A:b.length-(i+1)=j:=by omega
  rw[H];obtain⟨r,h⟩:=yQ (b.drop (j+1));obtain⟨E,C⟩:=jN λy d=>g y (Pi d);have u :(fL (b.drop (j+1))).length<=9:=by rw[E,O8];omega
  have w:(mP z).length<=100:=by have:=oQ z.cps.toList z.length;have:=g z m;unfold mP;omega
  have x:(bX (b.drop (j+1))).length<=9:=by rw[kf,O8];omega
  refine⟨_,rfl,?_⟩;walk_at "ev";rw[h];walk_at "ev";rw[c46 k z (g z m)];walk_at "ev";rw[c47 k _ _ (by omega) w (λc hc=>M8 (C c hc).len (by decide))];walk_at "ev";rw[JT];walk_at "ev";rw[h,Mq]at x;rw[Ma (by omega)];walk_at "ev";refine⟨.frz (.str z) true,?_⟩;rw[A,v,bX,h];rfl
 .rintro f ⟨a,rfl⟩
  rw[OR,MT,Nat.sub_self,List.drop_zero];walk_at "ev"
theorem qw:∀a:List Str,fL a=wL (a.map aT)
 |[]=>rfl|z::a=>by show wl (fL a) (mP z) (fL a).length=wl (wL (a.map aT)) (j8 (aT z)) (wL (a.map aT)).length;rw[qw a];rfl
theorem c165(k:Nat)(b:List (Int×Int))(c:b.length<=1000):aC P (k+1) 165 [.tup (b.map aN)]=some (.lst ((b.map (·.2)).map .int)):=by refine cH rfl rfl ?_;simp only[Lk,entry];walk_at "ev";rw[ba b];walk_at "ev";rw[Ma (by rw[MT];omega),gi (λq hq=>rfl)];walk_at "ev";rw[M4];rfl
theorem L3(k:Nat)(b:List (Int×Int))(hb:∀x∈b,0<=x.1):aC P (k+1) 164 [.tup (b.map aN)]=some (.int (cJ b:Nat)):=by
 refine cH rfl rfl ?_;simp only[Ll,entry];walk_at "ev";rw[ba b]
 rcases List.eq_nil_or_concat b with rfl|⟨b',c,rfl⟩
 .exact⟨_,rfl,rfl⟩
 .rw[List.concat_eq_append]at hb ⊢
  have e:(b' ++[c]).map aN=b'.map aN++[aN c]:=by rw[Mr];rfl
  have h0:=hb c (by simp);rw[e,show decide ((0:Int)<((b'.map aN++[aN c]).length:Int))=true from Mv (by rw[Mj,List.length_singleton];omega)];walk_at "ev";rw[Cu];have:cJ (b' ++[c])=(c.1+1).toNat:=by unfold cJ;rw[List.getLast?_concat]
  rw[this,show(((c.1+1).toNat:Nat):Int)=c.1+1 by omega];exact⟨_,rfl,rfl⟩
theorem Hb:∀T<256,∀c<8,Nat.testBit T c=false->T+2^c=T ||| 2^c:=by decide +kernel
def ib:List Nat->Nat
 |[]=>0|c::l=>ib l ||| 2^c
theorem uE:∀{l:List Nat},(∀c∈l,c<8)->ib l<256
 |[],_=>by decide|c::l,h=>by have b:=uE λd hd=>h d (MW _ hd);have a:2^c<2^8:=Nat.pow_lt_pow_right (by decide) (h c MX);exact Nat.or_lt_two_pow b a
theorem jl{d:Nat}:∀{l:List Nat},(ib l).testBit d=l.contains d
 |[]=>by show Nat.testBit 0 d=_;rw[Nat.zero_testBit];rfl
 |c::l=>by
  show Nat.testBit (ib l ||| 2^c) d=_;rw[Nat.testBit_or,jl,Ot,Nat.testBit_two_pow,Bool.or_comm]
  congr 1
  by_cases e:c=d;subst e;simp
  .have:¬d=c:=λz=>e z.symm
   simp[e,this]
theorem oP:∀{l:List Nat},(∀c∈l,c<8)->l.Nodup->(l.map λc=>(1:Int)*2^c).sum=((ib l:Nat):Int)
 |[],_,_=>rfl|c::l,h,nd=>by
  obtain⟨n1,n2⟩:=M9.mp nd;have hl:=λd hd=>h d (MW _ hd);rw[Mm,List.sum_cons,oP hl n2];show _=((ib l ||| 2^c:Nat):Int);rw[<- Hb _ (uE hl) c (h c MX) (by rwa[jl,<-PB,NZ])]
  push_cast
  omega
theorem rE(T:Nat):∀t:au,∃a,me (T:Int) (t.map λp=>Sum.inl p.1) (t.map λp=>.int p.2)=some a/\a.sum=dM (tJ T) t
 |[]=>⟨[],rfl,rfl⟩|p::t=>by
  obtain⟨a,d,b⟩:=rE T t;refine⟨if Builtin.bitAnd p.1 T=0 then p.2::a else a,?_,?_⟩
  .show(me T (t.map λp=>Sum.inl p.1) (t.map λp=>.int p.2)).map _=_
   rw[d];rfl
  .show _=p.2*tJ T p.1+dM (tJ T) t
   rw[<- b];unfold tJ
   by_cases c:Builtin.bitAnd p.1 T=0;rw[Ma c,Ma c,List.sum_cons,Int.mul_one];rw[MY c,MY c,Int.mul_zero,O9]
theorem jO:∀(a:List Str)(j:Nat),j<=a.length->(bX a)[j]? =some (.lst ((fL (a.drop j)).map jy))
 |[],0,_=>rfl|z::a,0,_=>rfl|[],j+1,h=>by cases h|z::a,j+1,h=>by rw[bX,OM,List.drop_succ_cons];exact jO a j (by rw[Mq]at h;omega)
theorem mE{rows:List Str}(b:∀z∈rows,z.length<=8):iu (rows.map aT):=λcs h c hc=>by obtain⟨z,a,rfl⟩:=Md.mp h;have e:=ND.mp (NL.mp hc).1;have d:=b z a;omega
theorem j4:∀a:List Int,aY (a.map PV.int)=some a
 |[]=>rfl|n::a=>by show(aY (a.map PV.int)).map _=_;rw[j4 a];rfl
structure MO(n:Nat)(b:List (Int×Int)):Prop where
 row:∀x∈b,0<=x.1/\x.1<n
 col:∀x∈b,0<=x.2/\x.2<8
 nod:(b.map (·.2)).Nodup
theorem MO.cols(h:MO n b):(∀c∈cO b,c<8)/\(cO b).Nodup/\(b.map (·.2))=(cO b).map λc:Nat=>(c:Int):=by
 have e:(b.map (·.2))=(cO b).map λc:Nat=>(c:Int):=by unfold cO;rw[M4];refine NO λx a=> ?_;have:=h.col x a;omega
 refine⟨λc hc=> ?_,?_,e⟩
 .obtain⟨x,a,rfl⟩:=Md.mp hc
  have:=h.col x a;omega
 .have:=h.nod
  rw[e]at this;exact List.Pairwise.of_map _ (λa b h e=>h (by rw[e])) this
theorem Al(h:MO n b):cJ b<=n:=by
 unfold cJ;cases e:b.getLast? with
 |none=>exact M6 _|some c =>have:=h.row c (List.mem_of_getLast? e);omega
theorem oj{a:List Int}:mR .sum [.own (a.map PV.int) n]=some (sc (.int a.sum)):=by show(aY (a.map PV.int)).map _=_;rw[j4];rfl
theorem Dg(c:Nat)(h:c<8):(cT .LShift (.frz (.int 1) true) (.frz ((PV.int∘λc:Nat=>(c:Int)) c) true)).bind (λr=>Option.map some r.keep)=some (some ((PV.int∘λc:Nat=>(1:Int)*2^c) c,true)):=by show(if(0:Int)<=c/\(c:Int)<=1000000/\(1:Int).natAbs<2^64 then some (sc (.int (1*2^(c:Int).toNat)))else none).bind (λr=>Option.map some r.keep)=_;rw[Ma ⟨by omega,by omega,by decide⟩];rfl
theorem c166(k:Nat)(a:List Str)(b:List (Int×Int))(e:Nat)(J:a.length<=8)(l:∀z∈a,z.length<=8)(n:MO a.length b)(C:b.length<=1000) :
  aC P (k+2) 166 [.lst (bX a),.tup (b.map aN),.int e]=some (.int (pL (a.map aT) e b)):=by
 refine cH rfl rfl ?_;simp only[JL,entry];obtain⟨N,H⟩:=jN λy hy=>l y (Pi hy);obtain⟨q,v,E⟩:=n.cols;have j:pL (a.map aT) e b=if b.length<=e then cnt ((a.drop (cJ b)).map aT) (cO b) (e-b.length)else 0:=by unfold pL;rw[List.map_drop]
 walk_at "ev";rw[ba b,L3 k b λx hx=>(n.row x hx).1];walk_at "ev";rw[bD (jO a _ (Al n))];walk_at "ev";rw[MT,MT]
 by_cases u:b.length<=e
 .rw[Ma u]at j
  have w:(e-(b.length:Int))=((e-b.length:Nat):Int):=by omega
  rw[w,show decide ((0:Int)<=((e-b.length:Nat):Int))=true from Mv (by omega)];walk_at "ev"
  by_cases I:e-b.length<(fL (a.drop (cJ b))).length
  .rw[show decide (((e-b.length:Nat):Int)<((fL (a.drop (cJ b))).length:Int))=true from Mv (by omega)]
   walk_at "ev";rw[c165 k b C];walk_at "ev";rw[Ma (by rw[MT,MT];omega),E,M4,gi (λc hc=>Dg c (q c hc)),<-M4];walk_at "ev";rw[oj,oP q v];walk_at "ev";obtain⟨i,f⟩:∃i,(fL (a.drop (cJ b)))[e-b.length]? =some i:=⟨_,Mk I⟩;rw[bD (show((fL (a.drop (cJ b))).map jy)[e-b.length]? =some (jy i)by rw[Mp,f];rfl)];walk_at "ev";obtain⟨L,p,o⟩:=rE (ib (cO b)) i;have M:=(H i (Mu f)).len;unfold jy;rw[IP,Ma (by rw[MT];show i.length<=16777216;omega),p];walk_at "ev";rw[oj,o];walk_at "ev";have s:=wK (rows:=(a.drop (cJ b)).map aT) (mE λy hy=>l y (Pi hy)) (ib (cO b)) (e-b.length);rw[<- qw,Mf,f]at s;rw[j,show dM (tJ (ib (cO b))) i=_ from s];refine NG (λz=>some (PV.int z)) (cD _ _ λr hr d hd=> ?_);rw[gA (mE (λy hy=>l y (Pi hy)) r hr d hd),jl]
  .rw[show decide (((e-b.length:Nat):Int)<((fL (a.drop (cJ b))).length:Int))=false from Mt (by omega)]
   walk_at "ev";rw[j,fX _ _ _ (by rw[MT];omega)]
 .rw[MY u]at j
  rw[show decide ((0:Int)<=e-(b.length:Int))=false from Mt (by omega)];walk_at "ev";rw[j]
def xk(i j:Nat):PV:=.tup [.int (i:Nat),.int (j:Nat)]
def gv(a:List Str)(i j:Nat):List PV:=((List.range j).filter λc=>cd a i c==120).map λc=>xk i c
def gp(a:List Str)(w i:Nat):List PV:=(List.range i).flatMap λr=>gv a r w
theorem nS(a:List Str)(i j:Nat):gv a i (j+1)=gv a i j++(if cd a i j==120 then[xk i j]else[]):=by unfold gv;rw[Oe,OY,Mr];cases h:cd a i j==120<;>simp[h]
theorem jp(a:List Str)(w i:Nat):gp a w (i+1)=gp a w i++gv a i w:=by unfold gp;rw[Oe,List.flatMap_append];simp
theorem k6(a:List Str)(i j:Nat):(gv a i j).length<=j:=by unfold gv;rw[MT];exact M8 (NM _ _) (by rw[NT];exact Mc _)
theorem ip(a:List Str)(w:Nat):∀i,(gp a w i).length<=i*w
 |0=>by simp[gp]|i+1=>by rw[jp,Mj,Nat.succ_mul];have:=ip a w i;have:=k6 a i w;omega
theorem jL{a:List Str}{i:Nat}(h:a[i]? =some z):ck (a.map PV.str) (i:Int)=some (.str z):=bD (by rw[Mp,h];rfl)
theorem G8{a:List Str}{i:Nat}(b:(a.map PV.str)[i]? =some x):∃z,a[i]? =some z/\z∈a/\x=.str z:=by
 rw[Mp]at b;cases e:a[i]? with
 |none=>rw[e]at b;cases b|some z =>rw[e]at b;exact⟨z,rfl,Mu e,(Mx b).symm⟩
theorem c3(k:Nat)(e:List Str)(w:Nat)(s:Wd e w)(L:e.length<=8)(C:w<=8):aC P (k+1) 3 [.tup (e.map .str)]=some (.lst (gp e w e.length)):=by
 refine cH rfl rfl ?_;simp only[d3,entry];walk_at "go";rw[bN e];refine cN (xs:=List.zipWith iD (List.range (e.map PV.str).length) (e.map PV.str)) (n:=true) ?_ (λi g=>∃a b c d,g=[.frz (.tup (e.map .str)) true,.own (gp e w i) true,a,b,c,d]) ⟨_,_,_,_,rfl⟩ ?_ ?_
 .walk_at "ev"
  rfl
 .rintro i y g r ⟨a,b,c,d,rfl⟩
  obtain⟨y,f,rfl⟩:=xU r;obtain⟨z,v,A,rfl⟩:=G8 f;refine⟨_,rfl,?_⟩;have H:=(Mh.mp v).1;have o:=s z A;walk_at "ev";have l:(signs z).length=w:=by rwa[ci]
  refine cN (xs:=List.zipWith iD (List.range (signs z).length) (signs z)) (n:=true) ?_ (λj g=>∃c d,g=[.frz (.tup (e.map .str)) true,.own (gp e w i++gv e i j) true,.frz (.int i) true,.frz (.str z) true,c,d]) ⟨c,d,by simp[gv,iN,oB,B1,xP]⟩ ?_ ?_
  .walk_at "ev"
   simp only[tR,Option.map_some];rw[l,o]
  .rintro j y g r ⟨c,d,rfl⟩
   obtain⟨y,h,rfl⟩:=xU r;have D:j<w:=by have:=(Mh.mp h).1;omega
   obtain⟨J,x,E,O⟩:=Cg s H D;rw[v]at x;cases x;have f:(signs z)[j]? =some (.str ⟨#[cd e i j]⟩):=by unfold signs;rw[Mp,E];rfl
   rw[f]at h;cases h;refine⟨_,rfl,?_⟩;walk_at "ev";rw[jf];have m:(gp e w i++gv e i j).length<LN:=by rw[Mj];have I:=ip e w i;have N:=k6 e i j;have M:i*w<=8*8:=Nat.mul_le_mul (by omega) C;omega
   have p:=nS e i j;cases u:cd e i j==120 with
   |true =>rw[u]at p;walk_at "go";rw[cK rfl m];walk_at "ev";exact⟨.frz (.int j) true,.frz (.str ⟨#[cd e i j]⟩) true,by rw[p];simp[xk]⟩
   |false =>rw[u]at p;walk_at "ev";exact⟨.frz (.int j) true,.frz (.str ⟨#[cd e i j]⟩) true,by rw[p];simp⟩
  .rintro g ⟨c,d,rfl⟩
   rw[tS,l];walk_at "ev";exact⟨_,_,_,_,by rw[jp]⟩
 .rintro g ⟨a,b,c,d,rfl⟩
  rw[tS,MT];walk_at "ev"
def BK:PV->Bool
 | .int _=>true|_=>false
def DB:PV->Bool
 | .dT _ _=>false|_=>true
def DC:PV->Bool
 | .dT _ _=>false| .tup a=>a.all DB|_=>true
theorem c24(k:Nat)(v:PV)(h:DB v=true):aC P (k+1) 24 [v]=some (.bl (BK v)):=by refine run rfl rfl ?_;cases v<;>first|(cases h;done)|(walk_at "ev";rfl)
def ay(a:List Str)(w:Nat)(v:PV):Bool:=match hX v with
 |some q=>decide (0<=q.1/\q.1<a.length/\0<=q.2/\q.2<w/\cd a q.1.toNat q.2.toNat=120)|none=>false
theorem bI(h:hX v=none):ay a w v=false:=by unfold ay;rw[h]
theorem rZ(h:(BK a&&BK b)=false):hX (.tup [a,b])=none:=by cases a<;>cases b<;>first|rfl|(cases h;done)
theorem re(h:a.length≠2):hX (.tup a)=none:=by
 cases e:hX (.tup a)with
 |none=>rfl|some q =>
  have:=pC e;unfold aN at this
  injection this with e1
  subst e1;exact absurd rfl h
theorem c25(k:Nat)(d:List Str)(w:Nat)(v:PV)(A:Wd d w)(l:d≠[])(S:d.length<=8)(R:w<=8)(g:DC v=true):aC P (k+2) 25 [.tup (d.map .str),v]=some (.bl (ay d w v)):=by
 refine run rfl rfl ?_;simp only[d25,entry];cases v with
 |dT _ _=>cases g|tup o =>
  by_cases s:o.length=2
  .obtain⟨a,b,rfl⟩:=uY s
   have L:DB a=true:=by
    have:(DB a&&(DB b&&true))=true:=g
    revert this;cases DB a<;>simp
   have H:DB b=true:=by
    have:(DB a&&(DB b&&true))=true:=g
    revert this;cases DB b<;>simp
   have C:(!decide (((2:Nat):Int)=2))=false:=by decide
   walk_at "go";rw[C];walk_at "go";rw[c24 k a L,c24 k b H];cases h:BK a with
   |false =>walk_at "go";rw[bI (rZ (by rw[h];rfl))]
   |true =>
    cases q:BK b with
    |false =>walk_at "go";rw[bI (rZ (by rw[h,q];rfl))]
    |true =>
     obtain⟨i,rfl⟩:∃i,a=.int i:=by cases a<;>first|exact⟨_,rfl⟩|cases h
     obtain⟨j,rfl⟩:∃j,b=.int j:=by cases b<;>first|exact⟨_,rfl⟩|cases q
     walk_at "go";have I:ay d w (.tup [.int i,.int j])=decide (0<=i/\i<d.length/\0<=j/\j<w/\cd d i.toNat j.toNat=120):=rfl;rw[I];obtain⟨e,f⟩:∃z,d[0]? =some z:=⟨d[0]'(by cases d with|nil=>exact absurd rfl l|cons _ _=>simp),by cases d with|nil=>exact absurd rfl l|cons _ _=>rfl⟩;have J:ck (d.map PV.str) 0=some (.str e):=jL f;have x:=A e (Mu f);rw[MT,J]
     by_cases u:0<=i
     .rw[Mv u]
      by_cases p:i<d.length
      .rw[Mv p]
       walk_at "go"
       by_cases y:0<=j
       .rw[Mv y]
        walk_at "go";have N:fD (.str e)=some w:=by show(if e.length<=LN then some e.length else none)=some w;rw[Ma (by rw[x];show w<=16777216;omega),x]
        rw[N];walk_at "go"
        by_cases r:j<w
        .rw[Mv r]
         walk_at "go";obtain⟨m,rfl⟩:∃m:Nat,i=m:=⟨i.toNat,by omega⟩;obtain⟨n,rfl⟩:∃n:Nat,j=n:=⟨j.toNat,by omega⟩;have E:m<d.length:=by omega
         obtain⟨z,Q,O,T⟩:=Cg A E (show n<w by omega);rw[jL Q];walk_at "go";rw[bD O];walk_at "go";rw[jf];walk_at "go"
         congr 2
         rw[NU,Nx,Nc];simp only[Nq]
         constructor
         .intro c
          exact⟨by omega,by omega,by omega,by omega,c⟩
         .intro c
          exact c.2.2.2.2
        .rw[Mt r]
         walk_at "go";rw[Mt (by omega)]
       .rw[Mt y]
        walk_at "go";rw[Mt (by omega)]
      .rw[Mt p]
       walk_at "go";rw[Mt (by omega)]
     .rw[Mt u]
      walk_at "go";rw[Mt (by omega)]
  .rw[bI (re s)]
   have C:(!decide ((o.length:Int)=2))=true:=by rw[ON,decide_eq_false_iff_not];omega
   walk_at "go"
 |_=>walk_at "ev";rfl
theorem oJ{f:PV->Option (Option (PV×Bool))}{g:PV->PV}:∀{a:List PV},(∀x∈a,f x=some (some (g x,true)))->bg f a=some (a.map g,true)
 |[],_=>rfl|x::a,h=>by rw[bg,h x MX,oJ λy hy=>h y (MW _ hy)];rfl
theorem fz{a:Type}{F:a->PV}{G:a->PV}{l:List a}(h:∀x∈l,f (F x)=some (some (G x,true))):bg f (l.map F)=some (l.map G,true):=by
 induction l with
 |nil=>rfl|cons x l b =>rw[Mm,bg,h x MX,b λy hy=>h y (MW _ hy)];rfl
structure Pl(rows:List Str)(w:Nat)(qs:List (Int×Int)):Prop where
 cell:∀q∈qs,ay rows w (aN q)=true
 asc:(qs.map (·.1)).Pairwise (·<·)
 cols:(qs.map (·.2)).Nodup
def C4(a:List Str)(w:Nat)(v:PV):Prop:=∃b,v=.tup (b.map aN)/\Pl a w b
def rf(a:List Str)(w:Nat)(v:PV):Bool:= @decide (C4 a w v) (Classical.propDecidable _)
theorem eT(h:¬C4 a w v):rf a w v=false:=by exact @decide_eq_false _ (Classical.propDecidable _) h
theorem jX(h:C4 a w v):rf a w v=true:=by exact @decide_eq_true _ (Classical.propDecidable _) h
theorem pB(h:aN p=aN q):p=q:=by have a:hX (aN p)=some (p.1,p.2):=rfl;have b:hX (aN q)=some (q.1,q.2):=rfl;have:=Mx (NG hX h);exact Prod.ext (NG Prod.fst this) (NG Prod.snd this)
theorem FM(h:ay a w v=true):∃q,v=aN q:=by
 unfold ay at h;cases e:hX v with
 |none=>rw[e]at h;cases h|some q=>exact⟨q,pC e⟩
theorem cell_in(h:ay a w (aN q)=true):0<=q.1/\q.1<a.length/\0<=q.2/\q.2<w/\cd a q.1.toNat q.2.toNat=120:=by have e:ay a w (aN q)=decide (0<=q.1/\q.1<a.length/\0<=q.2/\q.2<w/\cd a q.1.toNat q.2.toNat=120):=rfl;exact NA h
theorem oK{a:List Str}{w:Nat}:∀{c:List PV},(∀x∈c,ay a w x=true)->∃b:List (Int×Int),c=b.map aN
 |[],_=>⟨[],rfl⟩|x::c,h=>by obtain⟨q,rfl⟩:=FM (h x MX);obtain⟨b,rfl⟩:=oK λy hy=>h y (MW _ hy);exact⟨q::b,rfl⟩
theorem uB{a:Type}(f:a->Bool):∀l:List a,iZ (l.map λx=>PV.bl (f x))=some (l.map f)
 |[]=>rfl|x::l=>by rw[Mm,iZ,uB f l];rfl
theorem oE:∀b a:List Int,mw (b.map PV.int) (a.map PV.int)=decide (b=a)
 |[],[]=>rfl|[],_::_=>rfl|_::_,[]=>rfl|x::b,y::a=>by show(decide (x=y)&&mw (b.map PV.int) (a.map PV.int))=_;rw[oE b a,NU];simp
theorem lx(n:Nat)(b:List Int):(b.map PV.int).all (eG n)=true:=by rw[Mn];intro x a;obtain⟨i,_,rfl⟩:=Md.mp a;cases n<;>rfl
theorem CW(b a:List Int):aq .Eq (.lst (b.map PV.int)) (.lst (a.map PV.int))=some (decide (b=a)):=by rw[FH];have d:eG 12 (.lst (b.map PV.int))=true:=lx 11 b;have c:eG 12 (.lst (a.map PV.int))=true:=lx 11 a;rw[d,c];show some (mw (b.map PV.int) (a.map PV.int))=_;rw[oE]
theorem kn(h:∀n∈ns,0<=n/\n<8):fO (.lst (ns.map PV.int))=some ns:=by
 show((aY (ns.map PV.int)).bind λns=>if ns.all (λn=>decide (0<=n)&&decide (n<8))=true then some ns else none)=some ns;rw[gc];show(if ns.all (λn=>decide (0<=n)&&decide (n<8))=true then some ns else none)=some ns;rw[Ma];rw[Mn];intro n hn
 simpa using h n hn
theorem Ej(a:List (Int×Int)):imms (a.map aN)=true:=ba a
def kn5:PV->Bool
 | .dT _ _=>false| .tup a=>a.all DC&&decide (a.length<=1000)|_=>true
theorem c26(k:Nat)(a:List Str)(w:Nat)(v:PV)(N:Wd a w)(E:a≠[])(J:a.length<=8)(H:w<=8)(D:kn5 v=true):aC P (k+3) 26 [.tup (a.map .str),v]=some (.bl (rf a w v)):=by
 refine run rfl rfl ?_;simp only[d26,entry];cases v with
 |dT _ _=>cases D|tup j =>
  have h:(j.all DC&&decide (j.length<=1000))=true:=D;rw[Mb,Nc]at h;have A:j.length<=LN:=by have:=h.2;omega
  walk_at "go";rw[oJ (g:=λx=>.bl (ay a w x)) λx m=> ?h1]
  case h1 =>walk_at "go";rw[c25 k a w x N E J H (Mn.mp h.1 x m)];walk_at "go"
  walk_at "go";rw[uB];walk_at "go";cases s:(j.map (ay a w)).all id with
  |false =>
   walk_at "go";rw[eT];rintro⟨c,e,l⟩;cases e;have:((c.map aN).map (ay a w)).all id=true:=by rw[Mn];intro b M;obtain⟨x,m,rfl⟩:=Md.mp M;obtain⟨q,d,rfl⟩:=Md.mp m;exact l.cell q d
   rw[this]at s;cases s
  |true =>
   have C:=λx m=>Mn.mp s _ (Md.mpr ⟨x,m,rfl⟩);obtain⟨c,rfl⟩:=oK C;have i:=λq d=>C _ (Md.mpr ⟨q,d,rfl⟩);rw[Ej];walk_at "go";rw[fz λq d=> ?h2]
   case h2=>rfl
   walk_at "go";rw[fz λq d=> ?h3]
   case h3=>rfl
   have y:∀n∈c.map (·.1),0<=n/\n<8:=λn hn=>by obtain⟨q,d,rfl⟩:=Md.mp hn;have:=cell_in (i q d);omega
   have r:∀n∈c.map (·.2),0<=n/\n<8:=λn hn=>by obtain⟨q,d,rfl⟩:=Md.mp hn;have:=cell_in (i q d);omega
   have I:(c.map λq:Int×Int=>PV.int q.1)=(c.map (·.1)).map PV.int:=by rw[M4];rfl
   have L:(c.map λq:Int×Int=>PV.int q.2)=(c.map (·.2)).map PV.int:=by rw[M4];rfl
   rw[I,L];walk_at "go";rw[kn y,kn r];walk_at "go";rw[CW]
   by_cases o:c.map (·.1)=cA (c.map (·.1))
   .rw[Mv o]
    walk_at "go"
    congr 2
    have A:(c.map (·.2)).length=((c.map (·.2)).map PV.int).length:=by rw[MT (f:=PV.int)]
    by_cases p:(c.map (·.2)).Nodup
    .rw[jX ⟨c,rfl,i,(nZ y).mp o,p⟩,Mv]
     have:=(sE r).mpr p;omega
    .rw[eT,Mt]
     .intro z
      exact p ((sE r).mp (by omega))
     .rintro⟨u,e,l⟩
      injection e with e1
      have:=List.map_inj_right (λa b=>pB) |>.mp e1
      subst this;exact p l.cols
   .rw[Mt o]
    walk_at "go";rw[eT];rintro⟨u,e,l⟩
    injection e with e1
    have:=List.map_inj_right (λa b=>pB) |>.mp e1
    subst this;exact o ((nZ y).mpr l.asc)
 |_ =>walk_at "ev";rw[eT (by rintro⟨c,e,_⟩;cases e)]
def cI(a:List Str)(w:Nat):List (Int×Int):=(List.range a.length).flatMap λr=>((List.range w).filter λc=>cd a r c==120).map λc:Nat=>((r:Int),(c:Int))
theorem qB(a:List Str)(w:Nat):gp a w a.length=(cI a w).map aN:=by
 unfold gp cI gv;rw[List.map_flatMap]
 congr 1
 funext r
 rw[M4];rfl
theorem jj:q∈cI a w↔ay a w (aN q)=true:=by
 unfold cI;rw[List.mem_flatMap]
 constructor
 .rintro⟨r,d,e⟩
  obtain⟨c,b,rfl⟩:=Md.mp e;rw[NL,ND,Nx]at b;rw[ND]at d;show decide (0<=(r:Int)/\(r:Int)<a.length/\0<=(c:Int)/\(c:Int)<w/\cd a (r:Int).toNat (c:Int).toNat=120)=true;rw[Nc];exact⟨by omega,by omega,by omega,by omega,b.2⟩
 .intro h
  obtain⟨i,g,j,l,f⟩:=cell_in h;refine⟨q.1.toNat,ND.mpr (by omega),Md.mpr ⟨q.2.toNat,?_,Prod.ext (by show((q.1.toNat:Nat):Int)=q.1;omega) (by show((q.2.toNat:Nat):Int)=q.2;omega)⟩⟩;rw[NL,ND,Nx];exact⟨by omega,f⟩
theorem vp{rows:List Str}(b:rows.length<=8)(a:w<=8):(cI rows w).length<=64:=by have e:=NG List.length (qB rows w);rw[MT]at e;rw[<- e];refine M8 (ip rows w rows.length) ?_;exact Nat.mul_le_mul b a
def tj(a:List Str)(w:Nat):List (List Nat):=(List.range a.length).map λr=>(List.range w).filter λc=>cd a r c==120
theorem iW(f:Nat->List Nat):∀(n k:Nat),ak (k:Int) ((List.range n).map λi=>f (k+i))=(List.range n).flatMap λi=>(f (k+i)).map λc:Nat=>(((k+i:Nat):Int),(c:Int))
 |0,k=>rfl|n+1,k=>by
  rw[List.range_succ_eq_map,Mm,ak,List.flatMap_cons,M4];have ih:=iW f n (k+1);have e1:((List.range n).map ((λi=>f (k+i))∘Nat.succ))=(List.range n).map λi=>f (k+1+i):=NO λi _=>by show f (k+(i+1))=f (k+1+i);rw[show k+(i+1)=k+1+i by omega]
  rw[e1,show k+1=((k+1:Nat):Int)by omega,ih,List.flatMap_map];refine NG (λz=>rM k (f (k+0))++z) ?_;refine NG (λg=>(List.range n).flatMap g) (funext λi=> ?_);rw[show k+(i+1)=k+1+i by omega]
theorem mM(a:List Str)(w:Nat):cI a w=ak 0 (tj a w):=by have:=iW (λr=>(List.range w).filter λc=>cd a r c==120) a.length 0;simp only[O7]at this;exact this.symm
theorem HN:Pl a w b↔KB (tj a w) b:=by
 constructor
 .intro h
  exact⟨⟨h.asc,h.cols⟩,λx hx=>by rw[<- mM];exact jj.mpr (h.cell x hx)⟩
 .rintro⟨⟨d,c⟩,e⟩
  exact⟨λx hx=>jj.mp (by rw[mM];exact e x hx),d,c⟩
theorem kO(d:Pl a w b)(g:ay a w (aN c)=true):Pl a w (b++[c])↔dW b c=true:=by
 constructor
 .intro h
  exact(ij.mp ⟨h.asc,h.cols⟩).2
 .intro o
  obtain⟨f,e⟩:=ij.mpr ⟨⟨d.asc,d.cols⟩,o⟩;refine⟨λx hx=> ?_,f,e⟩
  rcases M7.mp hx with z|z
  .exact d.cell x z
  .rw[My.mp z]
   exact g
theorem HM(h:Pl a w p)(s:q.Sublist p):Pl a w q := ⟨λx hx=>h.cell x (s.subset hx),h.asc.sublist (s.map _),h.cols.sublist (s.map _)⟩
theorem pD{w:Nat}:Pl a w []:=⟨λx hx=>(by cases hx),.nil,.nil⟩
theorem j6(d:Wd a w):a.map aT=tj a w:=by
 refine Oz λi=> ?_;unfold tj;rw[Mp,Mp]
 by_cases b:i<a.length
 .rw[Mk b,Na b]
  refine NG some ?_;have e:a.getD i ⟨#[]⟩=a[i]:=by rw[Mf,Mk b];rfl
  show(List.range a[i].length).filter (λc=>a[i].cps.toList.getD c 0==120)=(List.range w).filter λc=>(a.getD i ⟨#[]⟩).cps.toList.getD c 0==120;rw[e,d _ (OI b)]
 .rw[Ng (by omega),Ng (by rw[NT];omega)]
  rfl
theorem HP(e:w<=8)(h:Pl a w b):MO a.length b := ⟨λx hx=>by obtain⟨c,d,_⟩:=cell_in (h.cell x hx);exact⟨c,d⟩,λx hx=>by obtain⟨_,_,c,d,_⟩:=cell_in (h.cell x hx);exact⟨c,by omega⟩,h.cols⟩
theorem Fi:∀{n:Nat}{l:List Int},l.Pairwise (·<·)->(∀x∈l,0<=x/\x<n)->l.length<=n:=λ{n l} b a=>by
 have e:∀(l:List Int)m,l.Pairwise (·<·)->(∀x∈l,m<=x/\x<n)->(l.length:Int)<=max (n-m) 0:=by
  intro l
  induction l with
  |nil=>intro m _ _;show(0:Int)<=_;omega|cons x l f =>intro m b a;obtain⟨d,c⟩:=OH.mp b;have:=f (x+1) c λy hy=>⟨by have:=d y hy;omega,(a y (MW _ hy)).2⟩;have:=a x MX;rw[Mq];omega
 have:=e l 0 b a;omega
theorem dw(h:Pl a w b):b.length<=a.length:=by
 have:=Fi h.asc λx hx=>by obtain⟨q,d,rfl⟩:=Md.mp hx;obtain⟨e,c,_⟩:=cell_in (h.cell q d);exact⟨e,c⟩
 rwa[MT]at this
theorem vL{b:List (Int×Int)}(a:b.length<=1000):kn5 (.tup (b.map aN))=true:=by show((b.map aN).all DC&&decide ((b.map aN).length<=1000))=true;rw[Mb,Mn,Nc,MT];refine⟨λx hx=> ?_,a⟩;obtain⟨q,_,rfl⟩:=Md.mp hx;rfl
theorem rY:∀{p q:List (Int×Int)},p.map aN=q.map aN->p=q
 |[],[],_=>rfl|[],_::_,h=>by cases h|_::_,[],h=>by cases h|x::p,y::q,h=>by rw[Mm,Mm]at h;obtain⟨a,b⟩:=List.cons.inj h;rw[pB a,rY b]
def itsP:PV->List PV
 | .tup a=>a|_=>[]
theorem hZ:C4 a w (.tup (b.map aN))↔Pl a w b:=by
 constructor
 .rintro⟨c,e,h⟩
  have d:b.map aN=c.map aN:=by have:=NG itsP e;exact this
  rwa[rY d]
 .exact λh=>⟨b,rfl,h⟩
theorem c26y(k:Nat)(c:Wd a w)(e:a≠[])(f:a.length<=8)(d:w<=8)(h:Pl a w b):aC P (k+3) 26 [.tup (a.map .str),.tup (b.map aN)]=some (.bl true):=by have:=dw h;rw[c26 k a w _ c e f d (vL (by omega)),jX (hZ.mpr h)]
theorem Lw(k:Nat)(f:Wd a w)(i:a≠[])(j:a.length<=8)(g:w<=8)(h:Pl a w b)(d:ay a w (aN c)=true):aC P (k+3) 26 [.tup (a.map .str),.tup ((b++[c]).map aN)]=some (.bl (dW b c)):=by
 have:=dw h;rw[c26 k a w _ f i j g (vL (by rw[Mj,List.length_singleton];omega))];cases e:dW b c with
 |true=>rw[jX (hZ.mpr ((kO h d).mpr e))]|false=>rw[eT λz=>by have:=(kO h d).mp (hZ.mp z);rw[e]at this;cases this]
theorem IB(a c:Int×Int):aq .Lt (aN a) (aN c)=some (lR a c):=by
 have f:∀q,eG 12 (aN q)=true:=λq=>rfl;show ltT (aN a) (aN c)=_;unfold ltT;show(if decide (a.1=c.1)=true then(if decide (a.2=c.2)=true then some false else some (decide (a.2<c.2)))else some (decide (a.1<c.1)))=_;unfold lR
 by_cases b:a.1=c.1
 .rw[Ma (Mv b),Ma b]
  by_cases d:a.2=c.2
  .rw[Ma (Mv d),show decide (a.2<c.2)=false from Mt (by omega)]
  .rw[MY (by simpa using d)]
 .rw[MY (by simpa using b),MY b]
def gU(p:List (Int×Int))(c:Int×Int):List (Int×Int):=p.filter λx=>lR x c
theorem c168(k:Nat)(p:List (Int×Int))(c:Int×Int)(d:p.length<=1000):aC P (k+1) 168 [.tup (p.map aN),aN c]=some (.tup ((gU p c++[c]).map aN)):=by
 refine cH rfl rfl ?_;simp only[Li,entry];have a:imm (aN c)=true:=rfl;walk_at "ev";rw[ba p,a];walk_at "ev";rw[Ma (by rw[MT];omega),cC (p:=λx=>lR x c) λx hx=> ?hf]
 case hf =>rw[IB];walk_at "ev";cases lR x c<;>rfl
 walk_at "ev";have e:(gU p c).length<=p.length:=NM _ _;rw[Ma (by rw[Mj,MT];show(gU p c).length+1<=_;omega)];walk_at "ev";rw[Mr];rfl
theorem c3I(k:Nat)(b:Wd a w)(d:a.length<=8)(c:w<=8):aC P (k+1) 3 [.tup (a.map .str)]=some (.lst ((cI a w).map aN)):=by rw[c3 k a w b d c,qB]
theorem Ju(b:Wd a w)(c:w<=8):∀z∈a,z.length<=8:=λz hz=>by rwa[b z hz]
theorem xm(k:Nat)(c:Nat)(f:Wd a w)(g:a.length<=8)(d:w<=8)(e:Pl a w b) :
  aC P (k+2) 166 [.lst (bX a),.tup (b.map aN),.int c]=some (.int (pL (a.map aT) c b)):=by
 have:=dw e;exact c166 k a b c g (Ju f d) (HP d e) (by omega)
def Db(a:List Str)(w b:Nat)(n:Int)(i:Nat):List (Int×Int)×Int:=((cI a w).take i).foldl (OD.turn dW (pL (a.map aT) b)) ([],n)
theorem AT(c:(cI a w)[i]? =some q):Db a w b n (i+1)=OD.turn dW (pL (a.map aT) b) (Db a w b n i) q:=by unfold Db;rw[List.take_succ,c,Ox];rfl
theorem c167(k:Nat)(d:List Str)(w f:Nat)(n:Int)(o:Wd d w)(x:d≠[])(m:d.length<=8)(l:w<=8)(E:0<=n)(z:n<pL (d.map aT) f []) :
  aC P (k+4) 167 [.tup (d.map .str),.int f,.int n]=some (.tup (((cI d w).foldl (OD.turn dW (pL (d.map aT) f)) ([],n)).1.map aN)):=by
 refine cH rfl rfl ?_;simp only[Lj,entry];have v:=bN d;have A:aC P (k+3) 166 [.lst (bX d),.tup [],.int f]=_:=xm (k+1) f o m l (pD (w:=w));walk_at "ev";rw[v,JS (k+1) d m (Ju o l)];walk_at "ev";rw[show decide ((0:Int)<=n)=true from Mv E];walk_at "ev";rw[A];walk_at "ev";rw[show decide (n<pL (d.map aT) f [])=true from Mv z];walk_at "ev";refine cN (xs:=(cI d w).map aN) (n:=true) ?_ (λi s=>∃a b c,Pl d w (Db d w f n i).1/\s=[.frz (.tup (d.map .str)) true,.frz (.int f) true,.frz (.int n) true,.frz (.lst (bX d)) true,.frz (.tup ((Db d w f n i).1.map aN)) true,.frz (.int (Db d w f n i).2) true,a,b,c]) ⟨.un,.un,.un,pD,rfl⟩ ?_ ?_
 .walk_at "ev"
  rw[c3I (k+2) o m l];walk_at "ev"
 .rintro i y s j ⟨a,b,c,h,rfl⟩
  obtain⟨q,u,rfl⟩:∃q,(cI d w)[i]? =some q/\y=aN q:=by
   rw[Mp]at j;cases e:(cI d w)[i]? with
   |none=>rw[e]at j;cases j|some q=>rw[e]at j;cases j;exact⟨q,rfl,rfl⟩
  have r:ay d w (aN q)=true:=jj.mp (Mu u);have D:=dw h;have I:imm (aN q)=true:=rfl;refine⟨_,rfl,?_⟩;rw[AT u]
  generalize Db d w f n i=st at h D ⊢
  walk_at "ev";rw[Ma (by rw[Mj,MT];show st.1.length+1<=_;omega)];walk_at "ev";have C:st.1.map aN++[aN q]=(st.1++[q]).map aN:=by rw[Mr];rfl
  rw[C,Lw k o x m l h r];unfold OD.turn;cases H:dW st.1 q with
  |false =>walk_at "ev";exact⟨_,_,_,h,rfl⟩
  |true =>
   have p:=(kO h r).mpr H;rw[Ma rfl];walk_at "ev";rw[xm (k+1) f o m l p];walk_at "ev"
   by_cases g:st.2<pL (d.map aT) f (st.1++[q])
   .rw[Mv g,Ma g]
    walk_at "ev";exact⟨_,_,_,p,rfl⟩
   .rw[Mt g,MY g]
    walk_at "ev"
    first|exact⟨_,_,_,h,rfl⟩|exact⟨_,rfl,_,_,_,h,rfl⟩
 .rintro s ⟨a,b,c,h,rfl⟩
  have e:Db d w f n ((cI d w).map aN).length=(cI d w).foldl (OD.turn dW (pL (d.map aT) f)) ([],n):=by unfold Db;rw[MT,OG]
  rw[e];walk_at "ev"
theorem xT(a c:Int×Int):oF (aN a) (aN c)=decide (a=c):=by show(decide (a.1=c.1)&&(decide (a.2=c.2)&&true))=_;rw[Bool.and_true,NU,Mb,Nc,Nc,Nc];exact⟨λh=>Prod.ext h.1 h.2,λh=>by rw[h];exact⟨rfl,rfl⟩⟩
theorem Ei(c:Int×Int)(p:List (Int×Int)):aq .NotIn (aN c) (.tup (p.map aN))=some (!decide (c∈p)):=by
 have f:∀q,eG 12 (aN q)=true:=λq=>rfl;show(Jy (aN c) (p.map aN)).map (!·)=_;unfold Jy;rw[MY (λz=>by cases z.1),Ma]
 .show some (!_)=_
  refine NG (λb=>some !b) ?_;rw[NU,List.any_eq_true,Nc]
  constructor
  .rintro⟨y,a,e⟩
   obtain⟨q,d,rfl⟩:=Md.mp a;rw[xT]at e;rwa[<- NA e]
  .intro h
   exact⟨aN c,Md.mpr ⟨c,h,rfl⟩,by rw[xT];exact Mv rfl⟩
 .rw[f,Bool.true_and,Mn]
  intro y a;obtain⟨q,_,rfl⟩:=Md.mp a;exact f q
theorem qx(a:List (Int×Int)->Int)(p:List (Int×Int)):∀L:List (Int×Int),((((L.filter λc=> !decide (c∈p)).filter λc=>dW (gU p c) c).map λc=>a (gU p c++[c])).sum)=OD.sumZ (OD.mU dW lR a p) L
 |[]=>rfl|c::L=>by
  have d:=qx a p L;show _=OD.mU dW lR a p c+OD.sumZ (OD.mU dW lR a p) L;rw[<- d];have e:OD.mU dW lR a p c=if c∈p then 0 else if dW (gU p c) c then a (gU p c++[c])else 0:=by
   unfold OD.mU
   by_cases h:c∈p;rw[Ma h,Ma h]
   .rw[MY h,MY h]
    rfl
  rw[e]
  by_cases h:c∈p;rw[List.filter_cons_of_neg (by simpa using h),Ma h,O9]
  .rw[List.filter_cons_of_pos (by simpa using h),MY h]
   cases b:dW (gU p c) c with
   |true=>rw[List.filter_cons_of_pos (by simpa using b),Mm,List.sum_cons,Ma rfl]|false=>rw[List.filter_cons_of_neg (by rw[b];exact MZ),MY MZ,O9]
theorem kS{a:List Str}:∀b∈a.map aT,b.Pairwise (·<·):=λcs h=>by obtain⟨z,_,rfl⟩:=Md.mp h;exact List.Pairwise.filter _ List.pairwise_lt_range
theorem tq(b:Wd a w):ak 0 (a.map aT)=cI a w:=by rw[j6 b,mM]
theorem HQ(b:Wd a w):Pl a w p↔KB (a.map aT) p:=by rw[j6 b];exact HN
theorem c169(k:Nat)(a:List Str)(w:Nat)(p:List (Int×Int))(b:Wd a w)(i:a≠[])(e:a.length<=8)(d:w<=8)(h:Pl a w p) :
  aC P (k+4) 169 [.tup (a.map .str),.tup (p.map aN)]=some (.int ((k8 (a.map aT) p:Nat):Int)):=by
 refine cH rfl rfl ?_;simp only[Lh,entry];have r:=dw h;have o:=vp e d;walk_at "ev";rw[bN a,ba p,c26y k b i e d h];walk_at "ev";rw[JS (k+1) a e (Ju b d)];walk_at "ev";rw[c3I (k+2) b e d];walk_at "ev";rw[Ma (by rw[MT];omega),cC (p:=λc=> !decide (c∈p)) λx hx=> ?hf]
 case hf =>rw[Ei];walk_at "ev";rw[c168 (k+2) p x (by omega)];cases decide (x∈p)<;>rfl
 walk_at "ev";have m:=NM (λc=> !decide (c∈p)) (cI a w);rw[Ma (by rw[MT];omega),cC (p:=λc=>dW (gU p c) c) λx hx=> ?hf]
 case hf =>
  have f:=jj.mp (NL.mp hx).1;have j:Pl a w (gU p x):=HM h List.filter_sublist;rw[Lw k b i e d j f];cases q:dW (gU p x) x with
  |false=>rfl|true =>walk_at "ev";rw[MT,xm (k+1) p.length b e d ((kO j f).mpr q)];rfl
 walk_at "ev";rw[show(λc=>PV.int (pL (a.map aT) p.length (gU p c++[c])))=PV.int∘(λc=>pL (a.map aT) p.length (gU p c++[c]))from rfl,<-M4,oj,qx];walk_at "ev";rw[<- tq b,ym kS ((HQ b).mp h)]
theorem c66(k:Nat)(c:List Str)(w:Nat)(p:Wd c w)(s:c≠[])(J:c.length<=8)(u:w<=8):aC P (k+1) 66 [.tup (c.map .str)]=some (.lst (gp c w c.length)):=by
 refine cH rfl rfl ?_;simp only[d66,entry];walk_at "go";obtain⟨m,f⟩:∃z,c[0]? =some z:=by
  cases c with
  |nil=>exact absurd rfl s|cons z r=>exact⟨z,rfl⟩
 have o:=p m (Mu f);have x:ck (c.map PV.str) 0=some (.str m):=jL f;rw[bN c];refine cN (xs:=(List.range c.length).map λi=>.int (0+(i:Nat))) (n:=true) ?_ (λi d=>∃a b,d=[.frz (.tup (c.map .str)) true,.own (gp c w i) true,a,b]) ⟨_,_,rfl⟩ ?_ ?_
 .walk_at "ev"
  simp only[o5,fk,MT];rw[Ma ⟨by omega,by omega⟩];rfl
 .rintro i y d l ⟨a,b,rfl⟩
  obtain⟨D,rfl⟩:=eR l;refine⟨_,rfl,?_⟩;walk_at "ev";refine cN (xs:=(List.range w).map λi=>.int (0+(i:Nat))) (n:=true) ?_ (λj d=>∃b,d=[.frz (.tup (c.map .str)) true,.own (gp c w i++gv c i j) true,.frz (.int i) true,b]) ⟨b,by simp[gv,iN]⟩ ?_ ?_
  .walk_at "ev"
   rw[x];walk_at "ev";rw[len_str,Ma (by rw[o];show w<=16777216;omega)];walk_at "ev";simp only[o5,fk,o];rw[Ma ⟨by omega,by omega⟩];rfl
  .rintro j y d l ⟨b,rfl⟩
   obtain⟨v,rfl⟩:=eR l;refine⟨_,rfl,?_⟩;obtain⟨z,E,C,A⟩:=Cg p D v;walk_at "ev";rw[jL E];walk_at "ev";rw[Ma (by rw[A];show w<=16777216;omega),bD C];walk_at "ev";rw[jf];have e:(gp c w i++gv c i j).length<LN:=by rw[Mj];have I:=ip c w i;have M:=k6 c i j;have L:i*w<=8*8:=Nat.mul_le_mul (by omega) u;omega
   have g:=nS c i j;cases q:cd c i j==120 with
   |true =>rw[q]at g;walk_at "go";rw[cK rfl e];walk_at "ev";exact⟨.frz (.int j) true,by rw[g];simp[xk]⟩
   |false =>rw[q]at g;walk_at "ev";exact⟨.frz (.int j) true,by rw[g];simp⟩
  .rintro d ⟨b,rfl⟩
   rw[gw];walk_at "ev";exact⟨_,_,by rw[jp]⟩
 .rintro d ⟨a,b,rfl⟩
  rw[gw];walk_at "ev"
theorem nV:∀a:List (Int×Int),hV (a.map aN)=some a
 |[]=>rfl|p::a=>by show((hX (aN p)).bind λq=>(hV (a.map aN)).map (q::·))=_;rw[nV a];rfl
theorem nN(b:a≠[])(f:a.length<64)(g:∀q∈a,0<=q.2/\q.2<1000):km (a.map aN)=some (.own ((cw a).map aN) true):=by
 unfold km;have e:aY (a.map aN)=none:=by
  cases a with
  |nil=>exact absurd rfl b|cons p a=>rfl
 rw[e];unfold rA;rw[nV];have d:a.all (λq=>decide (0<=q.2)&&decide (q.2<1000))=true:=by
  rw[Mn];intro q c
  simpa using g q c
 show(if a.length<64/\a.all (λq=>decide (0<=q.2)&&decide (q.2<1000))=true then some (RV.own ((cw a).map aN) true)else none)=_;rw[Ma ⟨f,d⟩]
def apart(f q:Int×Int):Bool:= !decide (q.1=f.1)&& !decide (q.2=f.2)
structure kB(rows:List Str)(w:Nat)(fs:List (Int×Int)):Prop where
 cell:∀q∈fs,ay rows w (aN q)=true
 rowd:(fs.map (·.1)).Nodup
 cold:(fs.map (·.2)).Nodup
def left(a:List Str)(w:Nat)(b:List (Int×Int)):List (Int×Int):=(cI a w).filter λq=>b.all λf=>apart f q
theorem nw(a:List Str)(w:Nat)(b:List (Int×Int))(f:Int×Int):(left a w b).filter (apart f)=left a w (b++[f]):=by unfold left;rw[List.filter_filter];refine Py λq _=> ?_;rw[List.all_append,Bool.and_comm];simp
theorem kB.next(h:kB a w d)(j:f∈left a w d):kB a w (d++[f]):=by
 obtain⟨l,g⟩:=NL.mp j;rw[Mn]at g;have i:=λx c=>by
  have:=g x c;unfold apart at this
  simpa using this
 refine⟨λq hq=> ?_,?_,?_⟩
 .rcases M7.mp hq with z|z
  .exact h.cell q z
  .rw[My.mp z]
   exact jj.mp l
 .rw[Mr,Nk]
  refine⟨h.rowd,by simp,λa ha b hb=> ?_⟩;obtain⟨x,c,rfl⟩:=Md.mp ha;rw[Ps,My]at hb;subst hb;exact λe=>(i x c).1 e.symm
 .rw[Mr,Nk]
  refine⟨h.cold,by simp,λa ha b hb=> ?_⟩;obtain⟨x,c,rfl⟩:=Md.mp ha;rw[Ps,My]at hb;subst hb;exact λe=>(i x c).2 e.symm
theorem kB.len(h:kB c w d):((d.map (·.1)).length)<=c.length:=by
 have f:∀x∈d.map (·.1),(0:Int)<=x/\x<(c.length:Int):=λx hx=>by obtain⟨q,l,rfl⟩:=Md.mp hx;obtain⟨m,i,_⟩:=cell_in (h.cell q l);exact⟨m,i⟩
 have:=dX c.length ((d.map (·.1)).map Int.toNat) ?_ λx hx=> ?_
 .rw[MT]at this
  exact this
 .have g:=h.rowd
  unfold List.Nodup at g ⊢;rw[Oh];refine g.imp_of_mem λ{a b} ha hb' hab e=>hab ?_;have:=f a ha;have:=f b hb';omega
 .obtain⟨y,j,rfl⟩:=Md.mp hx
  have:=f y j;omega
theorem kB.pl(l:w<=8)(h:kB c w d):Pl c w (cw d):=by have f:=cv d;have g:=λq hq=>h.cell q (f.mem_iff.mp hq);refine⟨g,?_,(f.map _).nodup_iff.mpr h.cold⟩;have e:=(f.map _).nodup_iff.mpr h.rowd;unfold List.Nodup at e;rw[Oh]at e ⊢;refine(List.Pairwise.and (rB d) e).imp_of_mem λ{a b} ha hb hab=> ?_;obtain⟨i,m⟩:=hab;obtain⟨_,_,n,p,_⟩:=cell_in (g a ha);obtain⟨_,_,j,o,_⟩:=cell_in (g b hb);unfold SW.dz at i;omega
theorem Hz{a:List (Int×Int)}:aq .NotEq (.lst (a.map aN)) (.lst [])=some (!a.isEmpty):=by
 have f:∀q,eG 11 (aN q)=true:=λq=>rfl;rw[xh];have e:(eG 12 (.lst (a.map aN))&&eG 12 (.lst []))=true:=by rw[Mb];refine⟨?_,rfl⟩;show(a.map aN).all (eG 11)=true;rw[Mn];intro y b;obtain⟨q,_,rfl⟩:=Md.mp b;exact f q
 rw[Ma e];cases a<;>rfl
theorem Ja{ps:List (Int×Int)}{t:Int}(b:0<=t)(d:t<ps.length):∃q,ck (ps.map aN) t=some (aN q)/\q∈ps:=by obtain⟨e,a,f⟩:=Ff (l:=ps.map aN) b (by rwa[MT]);obtain⟨q,c,rfl⟩:=Md.mp f;exact⟨q,a,c⟩
theorem c170(k:Nat)(b:List Str)(w:Nat)(D s:Int)(I:Wd b w)(C:b≠[])(z:b.length<=8)(r:w<=8):∃v,aC P (k+2) 170 [.tup (b.map .str),.int D,.int s]=some v/\∃p,v=.tup (p.map aN)/\Pl b w p:=by
 refine nR rfl rfl ?_;simp only[Lf,entry];have J:=vp z r;walk_at "ev";rw[bN b,c66 k b w I C z r,qB];walk_at "ev";have h:left b w []=cI b w:=List.filter_eq_self.mpr λq _=>rfl;refine whTo (λm y=>∃c D a,y=[.frz (.tup (b.map .str)) true,.frz (.int D) true,.frz (.int s) true,.own (c.map aN) true,.frz (.lst ((left b w c).map aN)) true,a]/\kB b w c/\(left b w c).length<=m) (cI b w).length (by omega) ⟨[],D,.un,by rw[h];rfl,⟨λq hq=>(by cases hq),.nil,.nil⟩,by rw[h];exact Mc _⟩ ?_;rintro m y ⟨c,D,a,rfl,i,O⟩;have n:=i.len;rw[MT]at n;have M:(left b w c).length<=(cI b w).length:=NM _ _;refine⟨decide ((c.length:Int)<s)&& !(left b w c).isEmpty,?_,λhb=> ?_,λhb=> ?_⟩
 .walk_at "ev"
  rw[MT];cases decide ((c.length:Int)<s)with
  |false=>rfl|true =>walk_at "ev";rw[Hz];walk_at "ev"
 .rw[Mb]at hb
  have E:0<(left b w c).length:=by
   have:=hb.2;cases e:left b w c with
   |nil=>rw[e]at this;cases this|cons x l=>rw[Mq];omega
  refine⟨by omega,?_⟩;have d:(0:Int)<((left b w c).length:Int):=by omega
  obtain⟨q,u,f⟩:=Ja (PP _ (by omega)) (PR _ d);walk_at "ev";rw[MT,Ma d];walk_at "ev";rw[u];walk_at "ev";rw[MT,Ma ⟨d,by omega⟩];walk_at "ev";rw[cK rfl (by rw[MT];show c.length<16777216;omega)];walk_at "ev";rw[Ma (by rw[MT];omega),cC (p:=apart q) λx hx=> ?j]
  case j =>unfold apart aN;walk_at "ev";cases decide (x.1=q.1)<;>cases decide (x.2=q.2)<;>rfl
  walk_at "ev";rw[nw];have H:c.map aN++[aN q]=(c++[q]).map aN:=by rw[Mr];rfl
  rw[H];refine⟨_,rfl,_,_,_,rfl,i.next f,?_⟩;have Q:(left b w (c++[q])).length<(left b w c).length:=by rw[<- nw];refine List.length_filter_lt_length_iff_exists.mpr ⟨q,f,?_⟩;unfold apart;simp
  omega
 .have o:∀q∈c,0<=q.2/\q.2<1000:=λq hq=>by
   obtain⟨_,_,L,N,_⟩:=cell_in (i.cell q hq);exact⟨L,by omega⟩
  walk_at "ev"
  by_cases j:c=[]
  .subst j
   exact⟨_,rfl,_,rfl,[],by rw[show sortI []=[]from List.mergeSort_nil];rfl,pD⟩
  .rw[nN j (by omega) o]
   walk_at "ev";exact⟨_,rfl,cw c,rfl,i.pl r⟩
section
open PySem.Spec PyProof.Rows
theorem Kn:az N64 ["_law_board_here"] (aJ s64):=⟨rfl,rfl,rfl,by decide +kernel,rfl,by decide +kernel,by decide +kernel⟩
set_option tactic.hygienic true in
theorem Am{k:Nat}(f:c 64=some Jz)(h:aC c (k+1) 64 b=some r):jw b=some r:=by
 unfold aC at h;rw[f]at h;simp only[M5]at h
 split at h
 .rename_i g
  obtain⟨a,rfl⟩:=IM (show b.length=1 from g);simp only[Jz,zm,zn,jB,entry]at h;have e:((List.map (λv=>TV.frz v (imm v)) [a]++List.replicate (8-[a].length) TV.un).take 1).map TV.valD=[a]:=rfl;rw[e]at h;cases d:jw [a]with
  |none=>rw[d]at h;cases h|some v=>rw[d]at h;cases h;rfl
 .cases h
theorem HA(h:jw a=some r):a.length=1:=by
 unfold jw at h
 split at h;rfl;cases h
theorem kd:∀{b:List PV}{a:List Str},gG b=some a->b=a.map .str
 |[],a,h=>by cases h;rfl|x::b,a,h=>by
  cases x with
  |str z =>
   have h:(gG b).map (z::·)=some a:=h;cases e:gG b with
   |none=>rw[e]at h;cases h|some r =>rw[e]at h;cases h;rw[kd e];rfl
  |_=>cases h
theorem wV{K:W.Frag}{e:Hp}{n:Bool}{H:Hp}:∀{c:List Str}{d:List V},aG K e n (c.map .str) H d->d=c.map V.str
 |[],d,h=>h|z::c,d,h=>by rw[Mm]at h;obtain⟨u,f,rfl,a,b⟩:=h;rw[wV b,Rp.str.mp a];rfl
theorem AK:∀l:List Int,eK l=[]->∀x∈l,x=0:=by
 intro l;refine dF (P:=λl=>eK l=[]->∀x∈l,x=0) (λ_ x a=>nomatch a) (λl y ih h x a=> ?_) l
 by_cases e:y=0
 .subst e
  rw[gQ]at h
  rcases M7.mp a with a|a
  .exact ih h x a
  .simpa using a
 .rw[gR l e]at h
  simp at h
abbrev iR1(H:Hp)(j:Addr)(f:List Str)(i:Nat)(h:L2.St)(G:Hp):Prop:=∃C a b c d e g,h=[some (.ref j),some (.ref C),a,b,c,d,e,g]/\aD H G/\H C=none/\G C=some (.dT (bY (kh (f.take i))))
abbrev iR2(H:Hp)(b C a:Addr)(z:Str)(o:Obj)(ct:List (List Int×Int))(c:List Int)(j:Nat)(f:L2.St)(G:Hp):Prop:=∃d e g h,f=[some (.ref b),some (.ref C),some (.str z),some (.ref a),d,e,g,h]/\aD H G/\G C=some (.frz o (.dT (bY ct)))/\G a=some (.dT (bY ((ct.take j).foldl (kj c) ct)))
abbrev iR3(H:Hp)(c C a b:Addr)(z:Str)(h:Option V)(o:Obj)(ct:List (List Int×Int))(t:List Int)(n:Int)(f:List (List Int×Int))(B:Nat->List Int)(m:Nat)(d:L2.St)(G:Hp):Prop:=∃e g,d=[some (.ref c),some (.ref C),some (.str z),some (.ref a),some (.ref b),e,g,h]/\aD H G/\G C=some (.frz o (.dT (bY ct)))/\G a=some (.dT (bY ((B m).foldl (eM t n) f)))/\G b=some (.tup (t.map V.int))
abbrev iR4(H:Hp)(h C g:Addr)(o:Obj)(ct:List (List Int×Int))(f:Nat->List Int)(j:Nat)(i:L2.St)(G:Hp):Prop:=∃a b c d e,i=[some (.ref h),some (.ref C),a,b,c,d,e,some (.ref g)]/\aD H G/\G C=some (.frz o (.dT (bY ct)))/\G g=some (.lst ((f j).map V.int))
abbrev iR5(H:Hp)(i C g:Addr)(ct:List (List Int×Int))(h:Nat)(j:L2.St)(G:Hp):Prop:=∃a b c d e f,j=[some (.ref i),some (.ref C),a,b,c,d,e,some (.ref g)]/\aD H G/\G g=some (.lst (f.map V.int))/\eK f=eK (gf ct)/\f.length=h
theorem LV{G:Hp}{P:Prop}(h:iR1 H b a i c G)(f:aD H G->P):P:=by obtain⟨_,_,_,_,_,_,_,_,s,_⟩:=h;exact f s
theorem LU{o:Obj}{ct:List (List Int×Int)}{G:Hp}(h:iR2 H a C d z o ct b j c G):G C=some (.frz o (.dT (bY ct))):=by obtain⟨_,_,_,_,_,_,h,_⟩:=h;exact h
theorem LS{o:Obj}{ct:List (List Int×Int)}{G:Hp}(h:iR4 H c C b o ct a j d G):G C=some (.frz o (.dT (bY ct))):=by obtain⟨_,_,_,_,_,_,_,h,_⟩:=h;exact h
set_option tactic.hygienic true in
theorem Ir{K:W.Frag}(e4:mg "dict"=none)(a9:mg "len"=none)(c0:mg "range"=none)(d2:mg "sorted"=none)(e3:mg "tuple"=none)(D:uT K mg "_law_row" s64 ["_law_board_here"] f fd)(p:Program)(w:World)(Z:Heap)(k:Nat)(_:∀y g,F.lookup y=some g->∃b gd qs,mg y=some (.ref b)/\W.keepIn K (.ref b)=true/\Binds K gd qs []/\bQ p w K mg Z iw k b gd qs (uO K (aC P k g))):bQ p w K mg Z iw (k+1) f fd ["_law_board_here"] (uO K (aC P (k+1) 64)):=by
 refine D.fn.ok Kn (λvs H Q E h=> ?_) (λcdv A outer s H vs Q E hr h=> ?_)
 .obtain⟨c6,r,h1,N,_⟩:=h
  rw[<- h1.len];exact HA (Am rfl N)
 obtain⟨c6,r,h1,N,q⟩:=h
 replace N:=Am rfl N
 unfold jw at N
 split at N
 case h_2=>cases N
 rename_i ls;cases e1:gG ls with
 |none=>rw[e1]at N;cases N|some l =>
 rw[e1]at N;dsimp only[Option.bind]at N
 split at N
 case isFalse=>cases N
 rename_i hz;cases N;obtain⟨z1,z2⟩:=hz;have z2:∀z∈l,z.length<=8:=λz hz=>by simpa using Mn.mp z2 z hz
 have b7:=kd e1;subst b7;obtain⟨u1,_,rfl,r1,h1⟩:=h1;obtain rfl:=h1;obtain⟨Bd,us,rfl,d1,rb⟩:=Rp.tup.mp r1;have eb:=wV rb;subst eb;have nd:=Kn.nd;have hu:=GG hr;have e0:(iS iw p w K mg Z N64 "_law_row" (aJ s64) f cdv A outer s H E).nox.A.units+64<cLine:=hr.units;have hs:sizeLine=16777216:=NR
 refine⟨_,aZ (b8 (i:=1) nd rfl (Or.inl rfl) (yj hu (uw aK) cz)) (aZ (fS OA rfl (uu (pv 0)) (av (i:=2) nd rfl (Or.inl rfl)) (aZ (b8 (i:=3) nd rfl (Or.inl rfl) (bw tz rfl e4 boot_dict (aF (pv 1) aK))) (aZ (rT (fS OA rfl (wj (pv 1)) (av (i:=4) nd rfl (Or.inl rfl)) (ae (fS OA rfl (nY rfl c0 (aF (aw iY (by rfl) a9 On (aF (pv 2) aK)) aK)) (av (i:=5) nd rfl (Or.inl rfl))
     (ae (rV (PW.pt (As (hJ wv (rh Bj (pv 2) (pv 5) (λ_ _=>rfl)) ux (lH _)) (wb (hJ (wu (Hi:=H) e0) (pv 5) (pv 4) rfl)))) (aZ (b8 (i:=6) nd rfl (Or.inl rfl) (bw gM rfl e3 boot_tuple (aF (aw kK (by rfl) d2 boot_sorted (aF (fC ww (pv 4) (uw (aF (pv 5) aK))) aK)) aK)))
      (ae (wf hu (pv 3) (pv 6) (fC lF (rm hu (pv 3) (pv 6) cz ⟨rfl,rfl,rfl,rfl⟩) (wk hu (pv 1) (pv 4) (λ_ _=>rfl))) rfl))) pA))))))
   (ae (b8 (i:=1) nd rfl (Or.inl rfl) (pv 3))))))
  (aZ (b8 (i:=7) nd rfl (Or.inl rfl) (fC He (gW (aF cz aK)) cz)) (aZ (rT (fS OA rfl (wj (pv 1)) (av (i:=4) nd rfl (Or.inl rfl)) (ae (HJ (fC lF (rh ft (pv 7) (aw cY (by rfl) a9 On (aF (pv 4) aK)) (λ_ _=>rfl)) (wk hu (pv 1) (pv 4) (λ_ _=>rfl))) (HW (pv 7) (aw cY (by rfl) a9 On (aF (pv 4) aK)) Ac (λ_=>rfl)) rfl rfl rfl))))
  (aZ (rS OA (hJ wv (rh ft (pv 7) (F6 AE cz) (λ_ _=>rfl)) cz (lH _)) (ae (hU (HZ PySem.F.plainAttrs_list PySem.F.slot_list_pop PySem.F.type_list_pop IA (pv 7)) rfl))) (ae (jW (pv 7))))))),?_⟩
 intro C0 a5;refine⟨by show 0<=sizeLine;exact M6 _,λT0 hT0=> ?_⟩;have b2:T0≠C0:=λz=>by rw[z,aB]at hT0;cases hT0
 have a2:H T0=none:=by rw[aA b2]at hT0;exact hT0
 refine⟨T0,[],rfl,aB,by rw[aA (Nd b2)];exact aB,?_⟩;have sG:aD H (L2.upd (L2.upd (L2.upd H C0 (.dT [])) T0 (.tup [])) C0 (.dT [([],.int 1)])):=λb o z=>by rw[aA (aE z a5),aA (aE z a2),aA (aE z a5)];exact z
 have a4 :∀{G:Hp},aD H G->bT K G Bd (l.map V.str):=λs=>s.tup d1;have b1:∀i,bU (kh (l.take i)):=λi=>rK _ λr hr c S=>by obtain⟨z,hz,rfl⟩:=Md.mp hr;have:=ND.mp (NL.mp S).1;have:=z2 z (List.mem_of_mem_take hz);omega
 have e2:∀i,kh (l.take i)≠[]:=λi z=>by
  have:=jR ((l.take i).map aT) (λr hr c S=>by obtain⟨z,hz,rfl⟩:=Md.mp hr;have:=ND.mp (NL.mp S).1;have:=z2 z (List.mem_of_mem_take hz);omega) 0
  rw[show fR (((l.take i).map aT).map jd)=kh (l.take i)from rfl,z,ao]at this;cases this
 refine⟨_,rfl,Bd,rfl,⟨l.map V.str,a4 sG⟩,Eu (xs:=l.map V.str) (iR1 H Bd l) ⟨C0,_,_,_,_,_,_,rfl,sG,a5,aB⟩ (λi σ G _ h=>LV h a4) ?_ ?_⟩
 .rintro i x σ G ex ⟨C,a,b,c,d,e,g,rfl,sH,hC,gC⟩
  obtain⟨z,ez,rfl⟩:∃z,l[i]? =some z/\x=.str z:=by
   rw[Mp]at ex;cases e:l[i]? with
   |none=>rw[e]at ex;cases ex|some z=>rw[e]at ex;exact⟨z,rfl,(Mx ex).symm⟩
  have zl:=z2 z (Mu ez);obtain⟨ct,M⟩:∃ct,ct=kh (l.take i):=⟨_,rfl⟩;have ok:bU ct:=M▸b1 i
  have ne:bY ct≠[]:=λz=>e2 i (by have:=NG List.length z;rw[iQ,M]at this;exact List.length_eq_zero_iff.mp this)
  rw[<- M]at gC;refine⟨_,rfl,C,_,rfl,gC,ne,Cv _ _ ok,λFr hFr=> ?_⟩;have u:Fr≠C:=λz=>by rw[z,gC]at hFr;cases hFr
  have a7:H Fr=none:=sH.free hFr;refine⟨_,rfl,C,bY ct,rfl,by rw[aA (Nd u)];exact gC,λo nf=> ?_⟩;obtain⟨B,hB⟩:∃B:Nat->List Int,B=λm=>jd ((List.range m).filter λc=>z.cps.toList.getD c 0==120):=⟨_,rfl⟩;refine tK (iR2 H Bd C Fr z o ct (B z.length)) ⟨_,_,_,_,rfl,λb o z=> ?_,aB,?_⟩ (λj σ G _ h=>LU h) ?_ ?_
  .rw[aA (aE z hC),aA (aE z a7)]
   exact sH _ _ z
  .rw[aA u,aB]
   rfl
  .rintro j kk x b σ G2 b0 hb ⟨d,e,g,h,rfl,s2,c2,f2⟩
   obtain⟨t,n,O,rfl,rfl⟩:=xX b0;rw[lb]at hb;have tk:cR t:=ok.2 t (Md.mpr ⟨_,Mu O,rfl⟩);have tl:=tk.len;obtain⟨fj,a8⟩:∃fj,fj=(ct.take j).foldl (kj (B z.length)) ct:=⟨_,rfl⟩;rw[<- a8]at f2;have d':bU fj:=by rw[a8];refine lq (λc S=> ?_) ok λp hp=>ok.2 _ (Md.mpr ⟨p,List.mem_of_mem_take hp,rfl⟩);rw[hB]at S;obtain⟨c',a',rfl⟩:=Md.mp S;have:=ND.mp (NL.mp a').1;omega
   refine⟨_,rfl,z,rfl,by omega,(z.length:Int),rfl,by omega,by omega,?_⟩;rw[Nq];refine zD (iR3 H Bd C Fr b z h o ct t n fj B) ⟨_,_,rfl,s2,c2,by rw[hB];exact f2,hb⟩ ?_ ?_
   .rintro m σ G3 hm ⟨e,g,rfl,s3,c3,U,b3⟩
    have e6:z.cps.toList.length=z.length:=by rw[M0];rfl
    have a1:ck z.cps.toList (0+(m:Int))=some (z.cps.toList.getD m 0):=by rw[O9];exact bD (by rw[List.getD,Mk (by omega)];rfl)
    have Bs:B (m+1)=B m++(if z.cps.toList.getD m 0==120 then[(m:Int)]else[]):=by rw[hB];show jd _=jd _++_;rw[Oe,OY];unfold jd;rw[Mr,N7];cases z.cps.toList.getD m 0==120<;>rfl
    refine⟨_,rfl,_,rfl,z,_,_,rfl,rfl,by omega,a1,?_⟩;refine⟨rfl,_,rfl,Ef (λhx=> ?_) (λhx=> ?_)⟩
    .have hx:(z.cps.toList.getD m 0==120)=true:=by
      have:=V.str.inj (NA hx);have q:=jf (z.cps.toList.getD m 0);rw[Mv this]at q;exact q.symm
     rw[hx]at Bs;have a3:((t.map PV.int).any λy=>oF y (.int (0+(m:Int))))=t.contains (m:Int):=by
      rw[O9,List.any_map,NU,List.any_eq_true,NZ]
      constructor
      .rintro⟨c,S,e⟩
       have:c=(m:Int):=NA e;rw[<- this];exact S
      .intro S
       exact⟨_,S,Mv rfl⟩
     obtain⟨R,a0⟩:∃R,R=(B m).foldl (eM t n) fj:=⟨_,rfl⟩;have e5:bU R:=by rw[a0];refine iO tk d' λc S=> ?_;rw[hB]at S;obtain⟨c',a',rfl⟩:=Md.mp S;have:=ND.mp (NL.mp a').1;omega
     have e7:(B (m+1)).foldl (eM t n) fj=eM t n R (m:Int):=by rw[Bs,Ox,<-a0];rfl
     rw[<- a0]at U;refine⟨_,rfl,_,rfl,PV.int (0+(m:Int)),t.map PV.int,rfl,?_,Rp.int.mpr rfl,.inr (Rp.tup.mpr ⟨b,t.map V.int,rfl,bT.of b3,aG.ints.mpr rfl⟩),_,rfl,Ef (λhn=> ?_) (λhn=> ?_)⟩
     .rw[List.all_map,Mn]
      exact λ_ _=>rfl
     .rw[a3]at hn
      have hn:t.contains (m:Int)=false:=by simpa using hn
      refine⟨_,rfl,_,rfl,by show 1<=sizeLine;decide,λT1 a2=> ?_⟩;have nb:b≠T1:=aE b3 a2;refine⟨b,T1,t.map V.int,[.int (0+(m:Int))],rfl,rfl,bT.of (by rw[aA nb];exact b3),bT.of aB,by rw[MT,hs];show _+1<=_;omega,λP1 G4 s4 q4=> ?_⟩;refine⟨P1,t++[(m:Int)],rfl,by rw[Mr];rw[O9]at q4;exact q4,by rw[Mj];show _+1<64;omega,λL1 hL1=> ?_⟩;refine⟨L1,_,rfl,.inl ⟨bH.of aB,λM1 hM1=> ?_⟩⟩;obtain⟨G5,a6⟩:∃G5,G5=L2.upd (L2.upd G4 L1 (.lst ((sortI (t++[(m:Int)])).map V.int))) M1 (.tup ((sortI (t++[(m:Int)])).map V.int)):=⟨_,rfl⟩;have sm:aD G3 G5:=by rw[a6];exact(aI a2 _).trans (s4.trans ((aI hL1 _).trans (aI hM1 _)))
      have hM:G5 M1=some (.tup (((eU t (m:Int)).map (Sum.inl:Int->L2.ag)).map kV)):=by rw[a6,lb];exact aB
      have c5:=sm _ _ c3;have f5:=sm _ _ U;have b5:=sm _ _ b3;have dC:ju G5 C (.ref b) (some (.int n)):=by
       have e:fE (bY ct) (t.map Sum.inl)=some (.int n):=by rw[l8,tG ok.1 O];rfl
       rw[<- e];exact .inr ⟨bY ct,t.map Sum.inl,b,.inr ⟨o,c5⟩,rfl,by rw[lb];exact b5,rfl⟩
      obtain⟨v,L⟩:∃v,v=(fG R (eU t (m:Int))).getD 0:=⟨_,rfl⟩;have b4:(bY R).length<sizeLine:=by rw[iQ,hs];have:=e5.few;omega
      rw[<- a6];refine⟨_,rfl,Fr,rfl,.inr ⟨_,.inl f5⟩,_,rfl,_,ju.t (k:=(eU t (m:Int)).map Sum.inl) f5 hM,?_⟩;refine⟨_,rfl,_,rfl,C,.int n,rfl,dC,v,n,?_,rfl,?_⟩
      .rw[l8,L]
       cases fG R (eU t (m:Int))<;>rfl
      refine⟨_,rfl,_,rfl,Fr,_,rfl,uM.t (k:=(eU t (m:Int)).map Sum.inl) f5 hM b4,_,_,rfl,λb' o' w' => ?_,?_,?_,?_⟩
      .rw[aA (aE w' a7)]
       exact sm _ _ (s3 _ _ w')
      .rw[aA (Nd u)]
       exact c5
      .rw[aB,e7]
       unfold eM;rw[MY (by rw[hn];simp),CI];unfold v9;rw[L]
      .rw[aA (BO b5 f5 (λz=>nomatch z))]
       exact b5
     .rw[a3]at hn
      have hn:t.contains (m:Int)=true:=by simpa using hn
      refine⟨_,_,rfl,s3,c3,?_,b3⟩;rw[e7];unfold eM;rw[Ma hn];exact U
    .have hx:(z.cps.toList.getD m 0==120)=false:=by
      cases hh:z.cps.toList.getD m 0==120 with
      |false=>rfl|true =>have q:=jf (z.cps.toList.getD m 0);rw[hh]at q;exact absurd (Mv (NG V.str (NA q))) hx
     rw[hx]at Bs;refine⟨_,_,rfl,s3,c3,?_,b3⟩;rw[Bs,MY (by simp),NP];exact U
   .rintro σ G3 ⟨e,g,rfl,s3,c3,U,b3⟩
    refine⟨_,_,_,_,rfl,s3,c3,?_⟩;rw[Og,O,Ox,<-a8];exact U
  .rintro σ G2 ⟨d,e,g,h,rfl,s2,c2,f2⟩
   refine⟨C,o,bY ct,c2,nf,?_⟩;refine⟨_,rfl,Fr,_,_,_,_,_,_,rfl,λb' o' w' => ?_,a7,?_⟩
   .rw[aA (aE w' hC)]
    exact s2 _ _ w'
   .rw[aA u,f2,iQ,OG]
    have e9:kh (l.take (i+1))=nu (jd (aT z)) ct:=by unfold kh;rw[Og,ez];show fR (((l.take i++[z]).map aT).map jd)=_;rw[Mr,Mr,Mm,OS,Mm,OS,gT,M];rfl
    rw[e9,hB];rfl
 .rintro σ G ⟨C,a,b,c,d,e,g,rfl,sH,hC,gC⟩
  rw[MT,OG]at gC;have ok:bU (kh l):=by have:=b1 l.length;rwa [OG]at this
  obtain⟨ct,M⟩:∃ct,ct=kh l:=⟨_,rfl⟩;rw[<- M]at gC ok;refine⟨by show 1<=sizeLine;decide,λL0 hL0=> ?_⟩;refine⟨L0,10,[.int 0],rfl,rfl,aB,by decide,by decide,by rw[hs];decide,λFo hFo=> ?_⟩;have c1:Fo≠L0:=λz=>by rw[z,aB]at hFo;cases hFo
  have Y:G Fo=none:=by rw[aA c1]at hFo;exact hFo
  have T:H Fo=none:=sH.free Y;have u:Fo≠C:=λz=>by rw[z,gC]at Y;cases Y
  have b6:C≠L0:=aE gC hL0;obtain⟨I,J⟩:∃I:Nat->List Int,I=λj=>(List.range 10).map λq=>wN (λt=>if t.length=q then 1 else 0) (ct.take j):=⟨_,rfl⟩;refine⟨_,rfl,C,bY ct,rfl,by rw[aA (Nd u),aA b6];exact gC,λo nf=> ?_⟩;refine tK (iR4 H Bd C Fo o ct I) ⟨_,_,_,_,_,rfl,λb o z=> ?_,aB,?_⟩ (λj σ G _ h=>LS h) ?_ ?_
  .rw[aA (aE z hC),aA (aE z T),aA (aE z (sH.free hL0))]
   exact sH _ _ z
  .rw[aA u,aB,J]
   rfl
  .rintro j kk x b' σ G2 b0 hb ⟨a,b,c,d,e,rfl,s2,c2,f2⟩
   obtain⟨t,n,O,rfl,rfl⟩:=xX b0;rw[lb]at hb;have tk:cR t:=ok.2 t (Md.mpr ⟨_,Mu O,rfl⟩);have tl:=tk.len;have dC:ju G2 C (.ref b') (some (.int n)):=by
    have e:fE (bY ct) (t.map Sum.inl)=some (.int n):=by rw[l8,tG ok.1 O];rfl
    rw[<- e];exact .inr ⟨bY ct,t.map Sum.inl,b',.inr ⟨o,c2⟩,rfl,by rw[lb];exact hb,rfl⟩
   obtain⟨v,L⟩:∃v,v=wN (λs=>if s.length=t.length then 1 else 0) (ct.take j):=⟨_,rfl⟩;have fl:(I j).length=10:=by rw[J];simp
   have a1:ck ((I j).map V.int) (((t.map V.int).length:Nat):Int)=some (.int v):=by refine bD ?_;rw[MT,Mp,J,Mp,Na (by omega),L];rfl
   refine⟨_,rfl,_,rfl,b',t.map V.int,rfl,.inr (bT.of hb),Fo,_,_,_,rfl,rfl,bH.of f2,a1,?_⟩;refine⟨_,rfl,_,rfl,C,.int n,rfl,dC,v,n,rfl,rfl,?_⟩;refine⟨_,rfl,_,rfl,b',t.map V.int,rfl,.inr (bT.of hb),Fo,_,_,t.length,rfl,rfl,f2,?_,?_⟩
   .rw[MT,MT,fl]
    exact Ee (by omega)
   refine⟨_,_,_,_,_,rfl,λb o z=> ?_,?_,?_⟩
   .rw[aA (aE z T)]
    exact s2 _ _ z
   .rw[aA (Nd u)]
    exact c2
   .rw[aB]
    have e9:I (j+1)=(I j).set t.length (v+n):=by
     rw[J];refine Oz λq=> ?_;rw[Ow,MT,NT,Mp,Mp]
     by_cases hq:q<10
     .rw[Na hq]
      have e8:∀φ:List Int->Int,wN φ (ct.take (j+1))=wN φ (ct.take j)+n*φ t:=λφ=>by rw[Og,O];unfold wN;rw[nK];show _+bR [(t,n)] _=_;rw[aU,cG,Int.add_zero]
      show some (wN _ (ct.take (j+1)))=_;rw[e8]
      by_cases hh:t.length=q
      .subst hh
       rw[Ma rfl,Ma hq,L];simp
      .simp only[MY hh,Int.mul_zero,Int.add_zero]
       rfl
     .rw[Ng (by simpa using hq)]
      rw[MY (by omega)];rfl
    rw[e9,List.map_set]
  .rintro σ G2 ⟨a,b,c,d,e,rfl,s2,c2,f2⟩
   refine⟨C,o,bY ct,c2,nf,?_⟩;have fe:I (bY ct).length=gf ct:=by rw[J,iQ];show(List.range 10).map _=_;rw[OG];rfl
   rw[fe]at f2;have c7:eK (gf ct)≠[]:=λz=>by
    have h0:wN (λt=>if t.length=0 then 1 else 0) ct=1:=by rw[M];exact(jR (l.map aT) (λr hr c S=>by obtain⟨z,hz,rfl⟩:=Md.mp hr;have:=ND.mp (NL.mp S).1;have:=z2 z hz;omega) 0).trans (ao _ _)
    have:=AK _ z 1 (Md.mpr ⟨0,by simp,h0⟩);cases this
   refine⟨iR5 H Bd C Fo ct,⟨_,_,_,_,_,_,gf ct,rfl,λb o z=> ?_,?_,rfl,rfl⟩,?_⟩
   .rw[aA (aE z hC)]
    exact s2 _ _ z
   .rw[aA u]
    exact f2
   .rintro mm σ G3 ⟨a,b,c,d,e,xs,rfl,s3,U,tr,rfl⟩
    obtain⟨X,y,rfl⟩:∃X y,xs=X++[y]:=by
     rcases List.eq_nil_or_concat xs with z|⟨X,y,z⟩
     .rw[z]at tr
      exact absurd (tr.symm.trans (show eK []=[]from rfl)) c7
     .exact⟨X,y,by rw[z,List.concat_eq_append]⟩
    have a1:ck ((X++[y]).map V.int) (-1)=some (.int y):=by
     have e:uP ((X++[y]).map V.int).length (-1)=some X.length:=by unfold uP;rw[MY (by decide),Ma (by simp;omega)];simp;omega
     unfold ck;rw[e];simp
    refine⟨_,rfl,1,rfl,Fo,_,_,_,rfl,rfl,bH.of U,a1,?_⟩;refine⟨rfl,_,rfl,Ef (λhy=> ?_) (λhy=> ?_)⟩
    .have hy:y=0:=V.int.inj (NA hy)
     subst hy;rw[gQ]at tr;refine⟨λσ' G' =>∃a b c d e,σ' =[some (.ref Bd),some (.ref C),a,b,c,d,e,some (.ref Fo)]/\aD H G' /\G' Fo=some (.lst (X.map V.int)),λσ' G' h=>by obtain⟨a,b,c,d,e,h1,N,h3⟩:=h;exact⟨X.length,by simp,a,b,c,d,e,X,h1,N,h3,tr,rfl⟩,?_⟩
     refine⟨_,rfl,.inl ⟨rfl,_,bH.of U⟩,Fo,_,.int 0,rfl,rfl,U,by simp,_,_,_,_,_,rfl,λb o z=> ?_,?_⟩
     .rw[aA (aE z T)]
      exact s3 _ _ z
     .rw[aB,Mr]
      simp
    .have hy:y≠0:=λz=>hy (Mv (NG V.int z))
     rw[gR X hy,M]at tr;refine⟨_,rfl,q _ _ s3 ?_⟩;rw[<- tr];exact Rp.lst.mpr ⟨Fo,_,rfl,λ_=>⟨T,U⟩,bH.of U,aG.ints.mpr rfl⟩
end
theorem kZ(f:Nat->Int)(N:Nat)(a:∀i,i<N->0<f i)(b:∀i,N<=i->f i=0):∀M,N<=M->eK ((List.range M).map f)=(List.range N).map f
 |0,h=>by
  have:N=0:=by omega
  subst this;rfl
 |M+1,h=>by
  rw[Oe,Mr]
  by_cases e:N=M+1
  .subst e
   have:=a M (by omega);rw[Mm,OS,gR _ (by omega),Oe,Mr];rfl
  .rw[Mm,OS,b M (by omega),gQ,kZ f N a b M (by omega)]
theorem c64(k:Nat)(d:List Str)(w:Nat)(l:Wd d w)(h:d.length<=8)(s:w<=8):aC P (k+1) 64 [.tup (d.map .str)]=some (.lst ((kz (bF d)).map .int)):=by
 have g:∀z∈d,z.length<=8:=λz g=>by rwa[l z g]
 have m:iu (d.map aT):=λr hr c hcc=>by obtain⟨z,f,rfl⟩:=Md.mp hr;have:=ND.mp (NL.mp hcc).1;have:=g z f;omega
 refine run rfl rfl ?_;have y:gG (d.map PV.str)=some d:=by
  clear l h g m
  induction d with
  |nil=>rfl|cons z r x=>rw[Mm,gG,x];rfl
 have e:jw [.tup (d.map .str)]=some (.lst ((kz (bF d)).map .int)):=by
  unfold jw;dsimp only;rw[y,M5,Ma ⟨h,by rw[Mn];intro z f;exact Mv (g z f)⟩]
  congr 3
  obtain⟨N,e,p,o⟩:=o0 (bF d) (gk d h g);have i:N<=10:=by
   by_cases q:N<=10;exact q
   .have a:=p 9 (by omega)
    have b:=jS (d.map aT) 9 0 [];rw[fw,fX _ _ _ (by rw[MT];omega)]at b;rw[show rk 9 (bF d)=0 from b]at a;omega
  have n:gf (kh d)=(List.range 10).map λj=>rk j (bF d):=by unfold gf;refine NO λj _=> ?_;have b:=jS (d.map aT) j 0 [];rw[fw]at b;exact (jR (d.map aT) m j).trans b.symm
  rw[n,e];exact kZ _ N p o 10 i
 simp only[Jz,zm,zn,jB,entry];have u:((List.map (λv=>TV.frz v (imm v)) [PV.tup (d.map .str)]++List.replicate (8-[PV.tup (d.map .str)].length) TV.un).take 1).map TV.valD=[.tup (d.map .str)]:=rfl;rw[u,e];rfl
theorem c8(k:Nat)(i:Int):aC P (k+1) 8 [.int i]=some (.bl true):=by refine run rfl rfl ?_;simp only[d8,entry];walk_at "ev"
def plain:PV->Bool
 | .non=>true| .int _=>true| .str _=>true
 | .lst a=>plains a| .tup a=>plains a|_=>false
where plains:List PV->Bool
 |[]=>true|x::a=>plain x&&plains a
def depth:PV->Nat
 | .lst a=>depths a+1| .tup a=>depths a+1|_=>1
where depths:List PV->Nat
 |[]=>0|x::a=>max (depth x) (depths a)
theorem k9:∀{b:List PV}{x:PV},plain.plains b=true->x∈b->plain x=true
 |[],_,_,h=>by cases h|y::ys,x,h,a=>by
  rw[plain.plains,Mb]at h
  rcases Ml.mp a with rfl|a
  .exact h.1
  .exact k9 h.2 a
theorem mC:∀{b:List PV}{x:PV},x∈b->depth x<=depth.depths b
 |[],_,h=>by cases h|y::ys,x,a=>by
  rw[depth.depths]
  rcases Ml.mp a with rfl|a
  .exact Nat.le_max_left _ _
  .exact M8 (mC a) (Nat.le_max_right _ _)
theorem c10(k:Nat)(c:List PV)(h:∀x∈c,aC P k 9 [x,x]=some (.bl true)):aC P (k+1) 10 [.lst c,.lst c]=some (.bl true):=by
 refine cH rfl rfl ?_;simp only[d10,entry];walk_at "ev";refine cN (xs:=List.zipWith wm c c) (n:=false) ?_ (λi f=>∃a b,f=[.frz (.lst c) false,.frz (.lst c) false,a,b]) ⟨_,_,rfl⟩ ?_ ?_
 .walk_at "ev"
  simp only[zk,BQ,PN,Option.map_some];rfl
 .rintro i y f d ⟨a,b,rfl⟩
  rw[Oa]at d;cases e:c[i]? with
  |none=>rw[e]at d;cases d|some x =>rw[e]at d;cases d;refine⟨_,rfl,?_⟩;walk_at "ev";rw[h x (Mu e)];walk_at "ev";exact⟨_,_,rfl⟩
 .rintro f ⟨a,b,rfl⟩
  walk_at "ev"
theorem c9(n k:Nat)(v:PV)(hd:depth v<=n)(hp:plain v=true):aC P (2*n+k) 9 [v,v]=some (.bl true):=by
 induction n generalizing v with
 |zero =>
  cases v with
  |non=>(simp[depth]at hd)|bl b=>cases hp|int i=>(simp[depth]at hd)|str z=>(simp[depth]at hd)|lst xs=>(simp[depth]at hd)|tup xs=>(simp[depth]at hd)|dK _ _=>cases hp|dT _ _=>cases hp
 |succ n ih =>
  have e:2*(n+1)+k=(2*n+k+1)+1:=by omega
  rw[e];have inner:=λxs h1 h2=>c10 _ xs λx hx=>ih x (M8 (mC hx) h1) (k9 h2 hx);refine run rfl rfl ?_;cases v with
  |non =>simp only[d9,entry];walk_at "ev"
  |bl b=>cases hp|int i =>simp only[d9,entry];walk_at "ev";rw[c8];walk_at "ev"
  |str z =>simp only[d9,entry];walk_at "ev"
  |lst xs =>simp only[d9,entry];walk_at "ev";rw[inner xs (by simpa [depth]using hd) (by simpa [plain]using hp)];walk_at "ev"
  |tup xs =>simp only[d9,entry];walk_at "ev";rw[inner xs (by simpa [depth]using hd) (by simpa [plain]using hp)];walk_at "ev"
  |dK _ _=>cases hp|dT _ _=>cases hp
set_option tactic.hygienic true in
theorem c20(k:Nat)(c:Int):∃v,aC P (k+2) 20 [.int c]=some v/\∃d:Int,0<=d/\v=.int d:=by
 refine nR rfl rfl ?_;simp only[d20,entry];walk_at "go"
 split
 .rename_i h
  walk_at "ev";refine⟨_,rfl,_,?_,rfl⟩;omega
 .walk_at "ev"
  refine cN (xs:=(List.range 8).map λi=>.int (0+(i:Nat))) (n:=true) ?_ (λi a=>∃(d:Int)(b:TV),a=[.frz (.int c) true,.frz (.int d) true,b]/\0<=d) ?_ ?_ ?_
  .rfl
  .exact⟨0,.un,rfl,by omega⟩
  .rintro i y a f ⟨d,b,rfl,e⟩
   obtain⟨m,rfl⟩:=eR f;refine⟨_,rfl,?_⟩;obtain⟨q,j,l,g⟩:=c5 k c (7*i+3) (by omega) (by omega);walk_at "go";rw[g];walk_at "go";exact⟨_,_,rfl,by omega⟩
  .rintro a ⟨d,b,rfl,e⟩
   walk_at "ev";exact⟨_,rfl,d,e,rfl⟩
def uJ(z:Str)(n:Nat):Prop:=z.length=n/\∀c∈z.cps.toList,c=120\/c=46
theorem uJ.more(h:uJ z n)(b:y=("x":Str)\/y=(".":Str)):uJ (z++y) (n+1):=by
 refine⟨?_,λc a=> ?_⟩
 .rw[PySem.Str.length_append,h.1]
  rcases b with rfl|rfl<;>rfl
 .rw[PySem.Str.cps_append,Array.toList_append,M7]at a
  rcases a with a|a
  .exact h.2 c a
  .rcases b with rfl|rfl
   .have:c∈[120]:=a
    simp at this;exact .inl this
   .have:c∈[46]:=a
    simp at this;exact .inr this
def pick(b:Bool):Str:=if b then "x" else "."
theorem D3(b:Bool):ck [PV.str ".",PV.str "x"] (if b then 1 else 0)=some (.str (pick b)):=by cases b<;>rfl
theorem A2(b:Bool):(pick b).length=1:=by cases b<;>rfl
theorem yg(b:Bool):pick b=("x":Str)\/pick b=(".":Str):=by cases b;exact .inr rfl;exact .inl rfl
theorem HK{j:Int}(c:0<=j)(d:j<=100):(0:Int)<1*2^j.toNat/\(1:Int)*2^j.toNat<2^200:=by
 have b:(0:Int)<2^j.toNat:=Int.pow_pos (by decide);refine⟨by omega,?_⟩;have a:(2:Nat)^j.toNat<2^200:=Nat.pow_lt_pow_right (by decide) (by omega);rw[Int.one_mul]
 exact_mod_cast a
abbrev bI1(x c R C h:Int)(m i:Nat)(j:En):Prop:=∃(f:List Str)(a b d e g:TV),j=[.frz (.int x) true,.frz (.int c) true,.frz (.int m) true,.frz (.int R) true,.frz (.int C) true,.frz (.int h) true,.own (f.map .str) true,a,b,d,e,g]/\f.length=i/\∀r∈f,uJ r C.toNat
abbrev bI2(x c R C a:Int)(m:Nat)(b:List Str)(i:Int)(j:Nat)(f:En):Prop:=∃(z:Str)(d e g:TV),f=[.frz (.int x) true,.frz (.int c) true,.frz (.int m) true,.frz (.int R) true,.frz (.int C) true,.frz (.int a) true,.own (b.map .str) true,.frz (.int i) true,.frz (.str z) true,d,e,g]/\uJ z j
theorem c62(k:Nat)(x c:Int)(m:Nat)(U:1<=m)(m8:m<=8):∃v,aC P (k+2) 62 [.int x,.int c,.int m]=some v/\∃o:List Str,UM.MQ m o/\v=.tup (o.map .str):=by
 have Y:0<=x%m:=PP _ (by omega);have r2:x%m<m:=PR _ (by omega);have q1:0<=x/8%m:=PP _ (by omega);have q2:x/8%m<m:=PR _ (by omega);have Z:(0:Int)<m:=by omega
 refine nR rfl rfl ?_;simp only[d62,entry];walk_at "go";obtain⟨R,L⟩:∃R,R=1+x%m:=⟨_,rfl⟩;obtain⟨C,T⟩:∃C,C=1+x/8%m:=⟨_,rfl⟩;obtain⟨u,Q⟩:∃u,u=1+x/64%8:=⟨_,rfl⟩;rw[<- L,<-T,<-Q];refine cN (xs:=(List.range R.toNat).map λi=>.int (0+(i:Nat))) (n:=true) ?_ (bI1 x c R C u m) ?_ ?_ ?_
 .walk_at "ev"
  simp only[o5,fk];rw[Ma ⟨by omega,by omega⟩];rfl
 .exact⟨[],.un,.un,.un,.un,.un,rfl,rfl,λr hr=>by cases hr⟩
 .rintro i y p I ⟨s,a,b,d,e,g,rfl,w,l⟩
  obtain⟨hi,rfl⟩:=eR I;refine⟨_,rfl,?_⟩;walk_at "ev";refine cN (xs:=(List.range C.toNat).map λi=>.int (0+(i:Nat))) (n:=true) ?_ (bI2 x c R C u m s i) ?_ ?_ ?_
  .walk_at "ev"
   simp only[o5,fk];rw[Ma ⟨by omega,by omega⟩];rfl
  .exact⟨_,d,e,g,rfl,rfl,λc hc=>by cases hc⟩
  .rintro j y p I ⟨z,d,e,g,rfl,A⟩
   obtain⟨hj,rfl⟩:=eR I;refine⟨_,rfl,?_⟩;have H:0<=C*i+j/\C*i+j<=100:=by have X:(0:Int)<=C*i:=Int.mul_nonneg (by omega) (by omega);have e2:C*i<=8*8:=Int.mul_le_mul (by omega) (by omega) (by omega) (by omega);omega
   have M:=A.1;have J:∀b,z.length+(pick b).length<=LN:=λb=>by rw[A2];omega
   have S:=HK H.1 H.2;walk_at "go"
   have D:∀b p,p=[.frz (.int x) true,.frz (.int c) true,.frz (.int m) true,.frz (.int R) true,.frz (.int C) true,.frz (.int u) true,.own (s.map .str) true,.frz (.int i) true,.frz (.str z) true,.frz (.int j) true,.frz (.int (C*i+j)) true,.frz (.bl b) true] -> To (ar (aC P (k+1)) 1000000 (.cons (.asg 8 false [] (.bin .Add (.var 8) (.ix (.lst (.cons (.con (.str ".")) (.cons (.con (.str "x")) .nil))) (.bf .int (.cons (.var 11) .nil))))) .nil) p) λf=>match f with
      | .nx E=>bI2 x c R C u m s i (j+1) E|_=>False:=by
    rintro b p rfl;have:=J b;walk_at "go";rw[D3];walk_at "go";exact⟨_,_,_,_,rfl,A.more (yg b)⟩
   split
   .obtain⟨q,b1,W,N⟩:=c5 k c (C*i+j) H.1 (by omega)
    walk_at "ev";rw[N];walk_at "go";refine(D _ _ rfl).imp λf h=> ?_;cases f<;>first|exact h|exact h.elim
   .walk_at "ev"
    refine(D _ _ rfl).imp λf h=> ?_;cases f<;>first|exact h|exact h.elim
  .rintro p ⟨z,d,e,g,rfl,A⟩
   rw[gw]at A;walk_at "ev";rw[cK rfl (by rw[MT];show s.length<16777216;omega)];walk_at "ev";refine⟨s++[z],_,_,_,_,_,by rw[Mr];rfl,by rw[Mj,w];rfl,λr hr=> ?_⟩
   rcases M7.mp hr with h|h
   .exact l r h
   .have O :r=z:=by simpa using h
    rwa[O]
 .rintro p ⟨s,a,b,d,e,g,rfl,w,l⟩
  rw[gw]at w;walk_at "ev";refine⟨_,rfl,s,⟨?_,by omega,⟨C.toNat,by omega,by omega,λr hr=>(l r hr).1⟩,λr hr=>(l r hr).2⟩,rfl⟩;intro z;rw[z]at w;simp at w;omega
theorem oI:∀p:List (Int×Int),depth.depths (p.map aN)<=2
 |[]=>by decide|x::p=>by show max (depth (aN x)) (depth.depths (p.map aN))<=2;have:=oI p;have h:depth (aN x)=2:=rfl;omega
theorem nW:∀p:List (Int×Int),plain.plains (p.map aN)=true
 |[]=>rfl|x::p=>by show(plain (aN x)&&plain.plains (p.map aN))=true;rw[nW p];rfl
theorem c9p(k:Nat)(p:List (Int×Int)):aC P (k+6) 9 [.tup (p.map aN),.tup (p.map aN)]=some (.bl true):=by have:=c9 3 k (.tup (p.map aN)) (Nat.succ_le_succ (oI p)) (nW p);rwa[show 2*3+k=k+6 by omega]at this
theorem EN(a:List (List Nat))(b:Nat):pL a b []=cnt a [] b:=rfl
theorem vE(c:Wd a w)(l:a.length<=8)(j:w<=8)(f:Pl a w p):ck ((kz (bF a)).map PV.int) (p.length:Int)=some (.int (cnt (a.map aT) [] p.length)):=by
 obtain⟨N,e,m,g⟩:=o0 (bF a) (gk a l (Ju c j));have d:rk p.length (bF a)=cnt (a.map aT) [] p.length:=by have b:=jS (a.map aT) p.length 0 [];rwa[fw]at b
 have h:=wZ kS ((HQ c).mp f);have i:p.length<N:=by
  by_cases q:p.length<N;exact q
  .have:=g p.length (by omega)
   omega
 refine bD ?_;rw[e,Mp,Mp,Na i];show some (PV.int (rk p.length (bF a)))=_;rw[d]
theorem Ly(k:Nat)(b:Wd a w)(f:a≠[])(g:a.length<=8)(e:w<=8)(d:Pl a w p):aC P (k+4) 167 [.tup (a.map .str),.int (p.length:Nat),.int ((k8 (a.map aT) p:Nat):Int)]=some (.tup (p.map aN)):=by have c:=(HQ b).mp d;rw[c167 k a w p.length _ b f g e (by omega) (by rw[EN];exact wZ kS c),<-tq b,ud kS c]
section
open PySem.Spec PyProof.Rows L2.XN XE
structure xz(K:W.Frag)(mg:Str->Option Value)(C D c1 c2 c3:Addr):Prop where
 kC:C6 K mg "NoPlacing" C
 kD:C6 K mg "BoardError" D
 k1:C6 K mg "NoBoard" c1
 k2:C6 K mg "NoStair" c2
 k3:C6 K mg "TooGreat" c3
 q:W.excIn K C [.type "ValueError",.type "Exception",.type "BaseException",.type "object"] "ValueError.__new__"=true
 xc:XC K C
 sC:W.subIn K (.ref C) (.ref C)=some true
 sD:W.subIn K (.ref C) (.ref D)=some true
 sB:W.subIn K (.ref D) (.type "BaseException")=some true
 sV:W.subIn K (.ref C) (.type "ValueError")=some true
 s1:W.subIn K (.ref C) (.ref c1)=some false
 s2:W.subIn K (.ref C) (.ref c2)=some false
 s3:W.subIn K (.ref C) (.ref c3)=some false
 n1:C≠c1
 n2:C≠c2
 n3:C≠c3
theorem JR{K:W.Frag}(h:X.K=K):dJ X (binaryOp .Add) (λx y H Q=>∃(l b:Addr)(c a:List V),x=.ref l/\y=.ref b/\bH K H l c/\bH K H b a/\c.length+a.length<=sizeLine/\∀p,H p=none->Q (.ref p) (upd H p (.lst (c++a)))):=by subst h;exact wx
theorem Gv:az MF ["board","size","number"] (aJ rF):=⟨rfl,rfl,rfl,by decide +kernel,rfl,by decide +kernel,by decide +kernel⟩
theorem Gu:az ME ["board","placing"] (aJ um):=⟨rfl,rfl,rfl,by decide +kernel,rfl,by decide +kernel,by decide +kernel⟩
theorem Gs:az MD ["board","placing"] (aJ ul):=⟨rfl,rfl,rfl,by decide +kernel,rfl,by decide +kernel,by decide +kernel⟩
theorem Ae:az N204 ["_law_board_here","_law_size","_law_number"] (aJ Gy):=⟨rfl,rfl,rfl,by decide +kernel,rfl,by decide +kernel,by decide +kernel⟩
theorem Ad:az N205 ["_law_board_here","_law_thing","_law_by_next"] (aJ Gx):=⟨rfl,rfl,rfl,by decide +kernel,rfl,by decide +kernel,by decide +kernel⟩
theorem Af:az N203 ["_law_error"] (aJ Ag):=⟨rfl,rfl,rfl,by decide +kernel,rfl,by decide +kernel,by decide +kernel⟩
abbrev KR:List V:=[.bl true,.bl true,.bl false,.bl false,.bl false]
abbrev KS:List PV:=[.bl true,.bl true,.bl false,.bl false,.bl false]
def AU(C:Addr):Sp:=λvs H Q _=>∃e,vs=[.ref e]/\GO H C none e/\∀a l,aD H a ->a l=some (.lst KR)->Q (.ref l) a
section
variable{K:W.Frag}{mg:Str->Option Value}{f C D c1 c2 c3:Addr}{fd:FuncData}{p:Program}{w:World}{base:Heap}{k:Nat}
theorem Bb(j:mg "isinstance"=none)(O:mg "ValueError"=none)(a:xz K mg C D c1 c2 c3)(S:uT K mg "_law_kinds" Ag ["_law_error"] f fd) :
  uL p w K mg base (k+1) f fd ["_law_error"] (AU C):=by
 obtain⟨oc,od,kV,Z,J,an,a0,ct,U,rfl,lk,A⟩:=S.fn.ex;refine JA lk A Af (λvs H Q E h=> ?_) λA outer s H vs Q h=> ?_
 .obtain⟨_,rfl,_⟩:=h
  rfl
 obtain⟨e,rfl,r,q⟩:=h;have c:∀{H:Hp}d,none=some d->∃x,H d=some (.xd x):=λd z=>by cases z
 have b:∀{Y:Cx}{N:Bool}{u:V}{v:Value},Y.K=K->(∀z,RelV u z->z=v)->W.kitOne K (.ref C) v=some N->bA Y (.builtin "isinstance") (λxs H Q=>∃e M,xs=[.ref e,u]/\GO H C M e/\(∀d,M=some d->∃x,H d=some (.xd x))/\Q (.bl N) H) :=
  λh1 h2 h6=>Ch (by rw[h1];exact a.xc) h2 (by rwa[h1])
 refine⟨_,aZ (b8 (i:=1) Af.nd rfl (Or.inl rfl) (gW (aF (aw (b (u:=.ref C) rfl (λv z=>z) (a.kC.kit a.sC λ_=>rfl)) rfl j Pj (aF (pv 0) (aF (iC (v:=.ref C) rfl a.kC.nm rfl) aK))) (aF (aw (b (u:=.ty "ValueError") rfl (λv z=>z) (IU a.sV (by decide +kernel))) rfl j Pj (aF (pv 0) (aF (F7 rfl O rfl) aK)))
    (aF (aw (b (u:=.ref c1) rfl (λv z=>z) (a.k1.kit a.s1 λz=>absurd z a.n1)) rfl j Pj (aF (pv 0) (aF (iC (v:=.ref c1) rfl a.k1.nm rfl) aK))) aK)))))
    (ae (jW (fC (JR rfl) (pv 1) (gW (aF (aw (b (u:=.ref c2) rfl (λv z=>z) (a.k2.kit a.s2 λz=>absurd z a.n2)) rfl j Pj (aF (pv 0) (aF (iC (v:=.ref c2) rfl a.k2.nm rfl) aK))) (aF (aw (b (u:=.ref c3) rfl (λv z=>z) (a.k3.kit a.s3 λz=>absurd z a.n3)) rfl j Pj (aF (pv 0) (aF (iC (v:=.ref c3) rfl a.k3.nm rfl) aK))) aK)))))),?_⟩
 refine⟨_,rfl,e,none,rfl,r,c,_,rfl,e,none,rfl,r,c,_,rfl,e,none,rfl,r,c,(by show 3<=sizeLine;decide),λl hl=> ?_⟩;have R:aD H (upd H l (.lst [.bl true,.bl true,.bl false])):=(aD.refl H).upd hl;have g:=r.mono R;refine⟨_,rfl,_,rfl,e,none,rfl,g,c,_,rfl,e,none,rfl,g,c,(by show 2<=sizeLine;decide),λm hm=> ?_⟩;have L:l≠m:=λz=>by rw[<- z,aB]at hm;cases hm
 have I:H m=none:=by rwa[aA (Nd L)]at hm
 refine⟨l,m,_,_,rfl,rfl,bH.of (by rw[aA L];exact aB),bH.of aB,(by show 5<=sizeLine;decide),λz hz=> ?_⟩;have J:z≠m:=λy=>by rw[y,aB]at hz;cases hz
 rw[aA J]at hz;have X:z≠l:=λy=>by rw[y,aB]at hz;cases hz
 rw[aA X]at hz;exact q _ z ((((aD.refl H).upd hl).upd I).upd hz) aB
def spP(K:W.Frag)(C:Addr)(m:List PV->Prop):Sp:=λvs H _ E=>∃a,aG K H false a H vs/\m a/\∀b,aD H b ->E (.ref C) none b
variable(hG:∀x v,G.lookup x=some v->∃u w,mg x=some u/\RelV w u/\∀Hi n H,Rp K Hi n v H w)(hB:∀x,B.contains x=true->mg x=none)(cl:xz K mg C D c1 c2 c3)
 (fns:∀y g,F.lookup y=some g->∃b gd qs,mg y=some (.ref b)/\W.keepIn K (.ref b)=true/\Binds K gd qs []/\bQ p w K mg base iw k b gd qs (uO K (aC P k g)))
include hG hB cl fns
theorem rp{M:List Nat}(Df:uT K mg L j l f fd)(S:az N l (aJ j))(gl:(aJ j).names.lookup ("NoPlacing":Str)=some .globalImplicit)(r:∀a,m a->a.length=l.length)
  (u:∀(X:Cx)(E:XK)(n:Hp)(o:L2.St)(a:List PV)(W:cE),bh (aC P k) X ⟨N,(aJ j).names,F,G,B,M⟩->(X.fn=λ_=>true)->(∀R c pos,PS X (.Raise (some (.Call (.Name "NoPlacing" R) [] [] c)) none pos) (AO E C))->m a -> al X.K n [] (entry ⟨N.length,l.length,.nil⟩ a) o n->o.length=X.N.length->(∀z,aD n z ->E (.ref C) none z)->J4 X (aa j) W o n) :
  bQ p w K mg base (DE p w C) (k+1) f fd l (spP K C m):=by
 refine JB (λvs H Q E h=> ?_) λmd=> ?_
 .obtain⟨a,i,d,_⟩:=h
  rw[<- i.len];exact r _ d
 obtain⟨oc,od,kV,a1,pm,an,x,ct,a0,rfl,lk,v⟩:=Df.fn.ex;refine GH lk v S (λvs H Q E h=> ?_) λA outer s H vs Q E hr h=> ?_
 .obtain⟨a,i,d,_⟩:=h
  rw[<- i.len];exact r _ d
 obtain⟨a,i,d,q⟩:=h;have J:=PySem.F.excBase_ValueError;have U:l.length<=N.length:=by have:=NG List.length S.pre;rw[OU]at this;omega
 have Z:(start N vs).length=N.length:=by have e1:=i.len;have e2:=r _ d;unfold L2.start;rw[Mj,MT,List.length_replicate];omega
 refine⟨_,eS,u (iS (DE p w C) p w K mg base N L (aJ j) f x A outer s H E) E H _ a _ ⟨rfl,S.nd,rfl,S.kind,rfl,hG,hB,λy g hy=> ?_,PassesOwn.leaving,hr.units⟩ rfl (λnp c pos=>yd (Ha md.kin cl.kC.nm cl.q) J (by decide) J rfl gl λpins o H s h' e I mk q=>yc I mk q) d (oG rfl i) Z q⟩
 obtain⟨b,Y,T,O,z2,z3,z4⟩:=fns y g hy;exact⟨k,b,Y,T,z4,hr,O,z2,z3⟩
abbrev noB(k:Nat)(a:List PV):Prop:=a.length=2/\d0 (aC P k) (.not (.val (.call 26 (.cons (.var 0) (.cons (.var 1) .nil))))) (entry ⟨4,2,.nil⟩ a)=some true
theorem Ks(b:uT K mg "number_of" um ["board","placing"] f fd):bQ p w K mg base (DE p w C) (k+1) f fd ["board","placing"] (spP K C (noB k)):=by refine rp (M:=[]) hG hB cl fns b Gu rfl (λpvs h=>h.1) λX E Hi σ pvs Ed C0 hfn rs hm R hl q=> ?_;obtain⟨a,r,d,c⟩:∃a r,(a=(aa um).getD 0 (.Pass ⟨0,0,0,0⟩))/\aa um=a::r:=⟨_,(aa um).drop 1,rfl,by kernel_rfl⟩;refine DL (aZ Ax eS) ?_;subst d;refine Il (n:=80) C0 (by kernel_rfl) hm.2 R (λ_ G s=> ?_) (λz=>by cases z);exact DL (ae (rs _ _ _)) (q _ s)
theorem Kr(b:uT K mg "next_placing" ul ["board","placing"] f fd):bQ p w K mg base (DE p w C) (k+1) f fd ["board","placing"] (spP K C (noB k)):=by refine rp (M:=[]) hG hB cl fns b Gs rfl (λpvs h=>h.1) λX E Hi σ pvs Ed C0 hfn rs hm R hl q=> ?_;obtain⟨a,r,d,c⟩:∃a r,(a=(aa ul).getD 0 (.Pass ⟨0,0,0,0⟩))/\aa ul=a::r:=⟨_,(aa ul).drop 1,rfl,by kernel_rfl⟩;refine DL (aZ Ax eS) ?_;subst d;refine Il (n:=80) C0 (by kernel_rfl) hm.2 R (λ_ G s=> ?_) (λz=>by cases z);exact DL (ae (rs _ _ _)) (q _ s)
abbrev GC(k:Nat)(a:List PV):Prop:=∃b,a.length=3/\fJ (aC P k) 1000000 (.asg 3 false [] (.call 163 (.cons (.var 0) .nil))) (entry ⟨9,3,.nil⟩ a)=some (.nx b)/\d0 (aC P k) (.not (.val (.chn .LtE .Lt (.con (.int 0)) (.var 2) (.call 166 (.cons (.var 3) (.cons (.tup .nil) (.cons (.var 1) .nil))))))) b=some true
theorem Kt(g:uT K mg "placing_at" rF ["board","size","number"] f fd):bQ p w K mg base (DE p w C) (k+1) f fd ["board","size","number"] (spP K C (GC k)):=by refine rp (M:=[]) hG hB cl fns g Gv rfl (λpvs h=>by obtain⟨_,e,_⟩:=h;exact e) λX E Hi σ pvs Ed C0 hfn rs hm R hl q=> ?_;obtain⟨m,_,j,l⟩:=hm;obtain⟨a,b,r,d,c,i⟩:∃a b r,(a=(aa rF).getD 0 (.Pass ⟨0,0,0,0⟩))/\(b=(aa rF).getD 1 (.Pass ⟨0,0,0,0⟩))/\aa rF=a::b::r:=⟨_,_,(aa rF).drop 2,rfl,rfl,by kernel_rfl⟩;refine DL (aZ Ax eS) ?_;subst d;refine nx_w (n:=80) C0 hfn (by kernel_rfl) j R hl λσ2 H2 O2 R2 hl2 s2=> ?_;refine DL (aZ Ax eS) ?_;subst c;refine Il (n:=80) C0 (by kernel_rfl) l R2 (λ_ G s=> ?_) (λz=>by cases z);exact DL (ae (rs _ _ _)) (q _ (R2.same.trans s))
end
section
variable{k:Nat}{vs:List PV}{r:PV}
theorem Bu(h:bo (ar b 1000000 (.cons (.ife c (.cons (.ret [] (.con (.bl true))) .nil) .nil) (.cons .never .nil)) a)=some r):d0 b c a=some true/\r=.bl true:=by
 rw[bK,ly]at h;cases e:d0 b c a with
 |none=>rw[e]at h;cases h|some t =>
  rw[e]at h;cases t with
  |false=>cases h|true=>cases h;exact⟨rfl,rfl⟩
theorem wY{g:Nat}{es:uS}{τ:En}(h:bo (ar (aC P k) 1000000 (.cons (.ret [] (.call g es)) .nil) τ)=some r):∃a,dG (aC P k) es τ=some a/\aC P k g (a.map RV.val)=some r:=by
 rw[bK,B9,iN,dU]at h;cases e:dG (aC P k) es τ with
 |none=>rw[e]at h;cases h|some a =>
  rw[e]at h;cases b:aC P k g (a.map RV.val)with
  |none=>rw[M5,b]at h;cases h|some x =>
   rw[M5,b]at h;have:x=r:=by cases x<;>exact Mx h
   exact⟨a,rfl,this▸b⟩
set_option tactic.hygienic true
theorem Aj(h:aC P (k+1) 205 vs=some r):r=.bl true/\∃d a b c,k=d +1/\vs=[a,b,.bl c]/\noB d [a,b]:=by
 rw[mL,show P 205=some E8 from rfl,M5]at h
 split at h
 case isFalse=>cases h
 rename_i j;obtain⟨a,b,c,rfl⟩:=BU (show vs.length=3 from j);obtain⟨c,rfl⟩:∃t,c=.bl t:=by cases c<;>first|exact⟨_,rfl⟩|cases h
 obtain⟨m,l,e⟩:=wY h;cases l;cases k with
 |zero=>cases e|succ k =>obtain⟨f,i⟩:=Bu (show bo (ar (aC P k) 1000000 _ _)=some r from e);exact⟨i,k,a,b,c,rfl,rfl,rfl,f⟩
theorem Ak(h:aC P (k+1) 204 vs=some r):r=.bl true/\∃i,k=i +1/\GC i vs:=by
 rw[mL,show P 204=some E9 from rfl,M5]at h
 split at h
 case isFalse=>cases h
 rename_i n;obtain⟨a,b,c,rfl⟩:=BU (show vs.length=3 from n);obtain⟨p,o,e⟩:=wY h;cases o;cases k with
 |zero=>cases e|succ k =>
  have e:bo (ar (aC P k) 1000000 (.cons (.asg 3 false [] (.call 163 (.cons (.var 0) .nil))) _) (entry ⟨9,3,.nil⟩ [a,b,c]))=some r:=e;rw[bK]at e;cases d:fJ (aC P k) 1000000 (.asg 3 false [] (.call 163 (.cons (.var 0) .nil))) (entry ⟨9,3,.nil⟩ [a,b,c])with
  |none=>rw[d]at e;cases e|some j =>
   obtain⟨f,rfl⟩:∃f,j=.nx f:=by rw[l5]at d;obtain⟨_,_,d⟩:=bind_some d;obtain⟨f,_,d⟩:=map_some d;exact⟨f,d.symm⟩
   rw[d,M5,ef]at e;obtain⟨l,m⟩:=Bu e;exact⟨m,k,rfl,f,rfl,d,l⟩
end
theorem F4{k:Nat}{A:Around}(a:fH k A)(h:j<=k):C2 j (A.mark v):=⟨by have:=a.dp;show A.depth+3*j+5<_;omega,by have:=a.un;show A.units+16*j+200<_;omega⟩
theorem rBl{K:W.Frag}(h:a l=some (.lst KR)):Rp K H false (.lst KS) a (.ref l):=Rp.lst.mpr ⟨_,_,rfl,(λz=>by cases z),bH.of h,.cons (Rp.bl.mpr rfl) (.cons (Rp.bl.mpr rfl) (.cons (Rp.bl.mpr rfl) (.cons (Rp.bl.mpr rfl) (.cons (Rp.bl.mpr rfl) .nil))))⟩
section
variable{K:W.Frag}{mg:Str->Option Value}{f fP fN f6 C D c1 c2 c3:Addr}{fd fdP fdN fd6:FuncData}(hG:∀x v,G.lookup x=some v->∃u w,mg x=some u/\RelV w u/\∀Hi n H,Rp K Hi n v H w)(hB:∀x,B.contains x=true->mg x=none)(cl:xz K mg C D c1 c2 c3)
include hG hB cl
theorem Es(v:uT K mg "placing_at" rF ["board","size","number"] fP fdP)(u:uT K mg "_law_kinds" Ag ["_law_error"] f6 fd6)(S:uT K mg "_law_at_refused" Gy ["_law_board_here","_law_size","_law_number"] f fd)(p:Program)(w:World)(a:Heap)(k:Nat)
  (c:∀j,j<=k->∀y g,F.lookup y=some g->∃b O M,mg y=some (.ref b)/\PySem.W.keepIn K (.ref b)=true/\Binds K O M []/\bQ p w K mg a iw j b O M (uO K (aC P j g))):bQ p w K mg a iw (k+1) f fd ["_law_board_here","_law_size","_law_number"] (uO K (aC P (k+1) 204)):=by
 refine S.fn.ok Ae (λvs H Q E h=> ?_) (λcdv A outer s H vs Q E hr h=> ?_)
 .obtain⟨I,r,o,x,_⟩:=h
  rw[<- o.len];obtain⟨_,_,_,_,e,_⟩:=Ak x;exact e
 obtain⟨I,r,o,x,q⟩:=h;obtain⟨rfl,k,rfl,R⟩:=Ak x;have U:uL p w K mg a 1 f6 fd6 ["_law_error"] (AU C):=Bb (hB "isinstance" rfl) (hB "ValueError" rfl) cl u;have L:=Ae.nd;obtain⟨m,d,n,rfl⟩:∃m d n,vs=[m,d,n]:=BU (by rw[<- o.len];obtain⟨_,e,_⟩:=R;exact e)
 refine⟨_,aZ (b8 (i:=3) L rfl (Or.inl rfl) uy) (aZ (wd (i:=4) rfl rfl rfl L rfl rfl rfl cl.kD.nm (cl.kD.exm cl.sD cl.sB) (λE pn W hp=>ae (hU (lE (Kt hG hB cl (c k (by omega)) v) hr rfl v.nm v.fn.kp v.bd .nil hp (aF (pv 0) (aF (pv 1) (aF (pv 2) aK)))))) (λe dd pn=>ae (b8 (i:=3) L rfl (Or.inl rfl) (r9 U (F4 hr (by omega)) rfl u.nm u.fn.kp u.bd (aF (pv 4) aK)))))
   (ae (jW (pE (u9 (Hi:=H) hr.units) (pv 3) (gW (aF fT (aF fT (aF fT (aF fT (aF fT aK)))))) (lH _))))),?_⟩
 refine⟨λσ' cls dd H' =>σ' =[some m,some d,some n,some .non,none]/\dd=none/\aD H H',?_,λσ' H' dd _ z e he=> ?_⟩
 .exact⟨m,rfl,d,rfl,n,rfl,_,o,R,λH' J =>⟨rfl,rfl,J⟩⟩
 .obtain⟨rfl,rfl,J⟩:=z
  have X:aD H' (upd H' e (XO C none e)):=(aD.refl H').upd he;refine⟨_,rfl,e,rfl,.inr aB,λH2 l s2 hl=> ?_⟩;refine⟨_,rfl,(by show 5<=sizeLine;decide),λz hz=> ?_⟩;have N:aD H2 (upd H2 z (.lst KR)):=(aD.refl H2).upd hz;refine⟨.lst KS,.lst KS,rfl,rfl,rBl (N _ _ hl),rBl aB,?_⟩;exact q _ _ (J.trans (X.trans (s2.trans N))) (Rp.bl.mpr rfl)
theorem Er(x:uT K mg "next_placing" ul ["board","placing"] fN fdN)(J:uT K mg "number_of" um ["board","placing"] fP fdP)(I:uT K mg "_law_kinds" Ag ["_law_error"] f6 fd6)(Z:uT K mg "_law_refused" Gx ["_law_board_here","_law_thing","_law_by_next"] f fd)(p:Program)(w:World)(m:Heap)(k:Nat)
  (n:∀j,j<=k->∀y g,F.lookup y=some g->∃b T O,mg y=some (.ref b)/\PySem.W.keepIn K (.ref b)=true/\Binds K T O []/\bQ p w K mg m iw j b T O (uO K (aC P j g))):bQ p w K mg m iw (k+1) f fd ["_law_board_here","_law_thing","_law_by_next"] (uO K (aC P (k+1) 205)):=by
 refine Z.fn.ok Ad (λvs H Q E h=> ?_) (λcdv A outer s H vs Q E hr h=> ?_)
 .obtain⟨M,r,d,L,_⟩:=h
  rw[<- d.len];obtain⟨_,_,_,_,_,_,rfl,_⟩:=Aj L;rfl
 obtain⟨M,r,d,L,q⟩:=h;obtain⟨rfl,k,a,b,c,rfl,rfl,U⟩:=Aj L;have K6:uL p w K mg m 1 f6 fd6 ["_law_error"] (AU C):=Bb (hB "isinstance" rfl) (hB "ValueError" rfl) cl I;have N:=Ad.nd;obtain⟨u,o,X,rfl⟩:∃u o,aG K H false [a,b] H [u,o]/\vs=[u,o,.bl c]:=by obtain⟨u,R,rfl,a1,d⟩:=d;obtain⟨o,R,rfl,Y,d⟩:=d;obtain⟨u3,R,rfl,a3,d⟩:=d;rw[d,Rp.bl.mp a3];exact⟨u,o,.cons a1 (.cons Y .nil),rfl⟩
 refine⟨_,aZ (b8 (i:=3) N rfl (Or.inl rfl) uy) (aZ (wd (i:=4) rfl rfl rfl N rfl rfl rfl cl.kD.nm (cl.kD.exm cl.sD cl.sB) (λE pn W hp=>ae (rV (HG (pv 2)) (ae (hU (lE (Kr hG hB cl (n k (by omega)) x) hr rfl x.nm x.fn.kp x.bd .nil hp (aF (pv 0) (aF (pv 1) aK))))) (ae (hU (lE (Ks hG hB cl (n k (by omega)) J) hr rfl J.nm J.fn.kp J.bd .nil hp (aF (pv 0) (aF (pv 1) aK))))))) (λe dd pn=>ae (b8 (i:=3) N rfl (Or.inl rfl) (r9 K6 (F4 hr (by omega)) rfl I.nm I.fn.kp I.bd (aF (pv 4) aK)))))
   (ae (jW (pE (u9 (Hi:=H) hr.units) (pv 3) (gW (aF fT (aF fT (aF fT (aF fT (aF fT aK)))))) (lH _))))),?_⟩
 refine⟨λσ' cls dd H' =>σ' =[some u,some o,some (.bl c),some .non,none]/\dd=none/\aD H H',?_,λσ' H' dd _ z e he=> ?_⟩
 .refine⟨_,rfl,c,rfl,?_⟩
  cases c with
  |true=>exact sd ⟨u,rfl,o,rfl,_,X,U,λH' v =>⟨rfl,rfl,v⟩⟩|false=>exact sf ⟨u,rfl,o,rfl,_,X,U,λH' v =>⟨rfl,rfl,v⟩⟩
 .obtain⟨rfl,rfl,v⟩:=z
  have se:aD H' (upd H' e (XO C none e)):=(aD.refl H').upd he;refine⟨_,rfl,e,rfl,.inr aB,λH2 l s2 hl=> ?_⟩;refine⟨_,rfl,(by show 5<=sizeLine;decide),λz hz=> ?_⟩;have S:aD H2 (upd H2 z (.lst KR)):=(aD.refl H2).upd hz;refine⟨.lst KS,.lst KS,rfl,rfl,rBl (S _ _ hl),rBl aB,?_⟩;exact q _ _ (v.trans (se.trans (s2.trans S))) (Rp.bl.mpr rfl)
end
end
theorem Lz(k:Nat)(a:Int)(c:Wd b w)(f:b.length<=8)(d:w<=8) :
  aC P (k+2) 166 [.lst (bX b),.tup [],.int a]=some (.int (if 0<=a then cnt (b.map aT) [] a.toNat else 0)):=by
 by_cases h:0<=a
 .obtain⟨n,rfl⟩:∃n:Nat,a=n:=⟨a.toNat,by omega⟩
  rw[Ma h];exact xm k n c f d (pD (w:=w))
 .rw[MY h]
  refine cH rfl rfl ?_;simp only[JL,entry];have e:aC P (k+1) 164 [.tup []]=some (.int 0):=L3 k [] (λx hx=>by cases hx);walk_at "ev";rw[e];walk_at "ev";have g:ck (bX b) 0=_:=bD (jO b 0 (M6 _));rw[g];walk_at "ev";rw[show decide ((0:Int)<=a-((0:Nat):Int))=false from Mt (by omega)];walk_at "ev"
theorem Lx(k:Nat)(d:Wd a w)(g:a.length<=8)(f:w<=8)(i:¬(0<=n/\n<if 0<=b then cnt (a.map aT) [] b.toNat else 0)) :
  aC P (k+5) 204 [.tup (a.map .str),.int b,.int n]=some (.bl true):=by
 have e:aC P (k+4) 20101 [.tup (a.map .str),.int b,.int n]=some (.bl true):=by
  refine cH rfl rfl ?_;simp only[entry];walk_at "ev";rw[bN a,JS (k+1) a g (Ju d f)];walk_at "ev"
  by_cases c:0<=n
  .rw[show decide ((0:Int)<=n)=true from Mv c]
   walk_at "ev";rw[Lz (k+1) b d g f];walk_at "ev";rw[Mt λz=>i ⟨c,z⟩];walk_at "ev"
  .rw[show decide ((0:Int)<=n)=false from Mt c]
   walk_at "ev"
 refine cH rfl rfl ?_;simp only[E9,entry];walk_at "ev";rw[e];walk_at "ev"
theorem GE{a:List (Int×Int)}(h:y∈a.map aN):DC y=true:=by obtain⟨q,_,rfl⟩:=Md.mp h;rfl
def qH(a:List Str)(w:Nat)(v:PV):Prop:=kn5 v=true/\¬C4 a w v
theorem c205(k:Nat)(f:Wd a w)(h:a≠[])(i:a.length<=8)(g:w<=8)(d:qH a w v) :
  aC P (k+5) 205 [.tup (a.map .str),v,.bl b]=some (.bl true):=by
 have c:=c26 k a w v f h i g d.1;rw[eT d.2]at c;have e:aC P (k+4) 20100 [.tup (a.map .str),v]=some (.bl true):=by refine cH rfl rfl ?_;simp only[entry];walk_at "ev";rw[c];walk_at "ev"
 refine cH rfl rfl ?_;simp only[E8,entry];rw[kr rfl];walk_at "ev";rw[e];walk_at "ev"
theorem qD{x:PV}(g:x∈b)(c:ay a w x=false)(h:∀y∈b,DC y=true)(i:b.length<=1000):qH a w (.tup b):=by
 refine⟨?_,?_⟩
 .show(b.all DC&&decide (b.length<=1000))=true
  rw[Mn.mpr h,Mv i];rfl
 .rintro⟨j,e,d⟩
  injection e with e1
  subst e1;obtain⟨q,f,rfl⟩:=Md.mp g;rw[d.cell q f]at c;cases c
theorem ig(h:kn5 v=true)(b:∀c,v≠.tup c):qH a w v:=⟨h,λ⟨qs,e,_⟩=>b _ e⟩
theorem xq(h:¬Pl a w b)(c:b.length<=1000):qH a w (.tup (b.map aN)) := ⟨vL c,λz=>h (hZ.mp z)⟩
def zB(q p:Int×Int):Bool:=decide (p.1=q.1)||decide (p.2=q.2)
theorem v4(i:b.filter (zB q)≠[]):¬Pl a w (cw (b++[q])):=by
 intro d;obtain⟨p,c⟩:=List.exists_mem_of_ne_nil _ i;rw[NL]at c;have g:=cv (b++[q]);have f:=(g.map _).nodup_iff.mp (d.asc.imp λz=>by omega);have e:=(g.map _).nodup_iff.mp d.cols;have h:=c.2;unfold zB at h;rw[N0,Nc,Nc]at h
 rcases h with h|h
 .rw[Mr,Nk]at f
  exact f.2.2 p.1 (Md.mpr ⟨p,c.1,rfl⟩) q.1 (by simp) h
 .rw[Mr,Nk]at e
  exact e.2.2 p.2 (Md.mpr ⟨p,c.1,rfl⟩) q.2 (by simp) h
theorem Fe(h:Pl c w d)(f:1<d.length):¬Pl c w d.reverse:=by
 intro e;have b:=e.asc;rw[List.map_reverse,List.pairwise_reverse]at b
 match d,f with
 |p::q::r,_ =>have i:=(OH.mp h.asc).1 q.1 (by simp);have g:=(OH.mp b).1 q.1 (by simp);omega
abbrev AB(a:List Str)(w:Nat)(b:List PV):Prop:=∀x∈b,qH a w x
section
variable{rows:List Str}{w:Nat}{xs ys:List PV}{y:PV}
theorem AB.add(h:AB rows w xs)(a:AB rows w ys):AB rows w (xs++ys):=λx hx=>by
 rcases M7.mp hx with z|z
 .exact h x z
 .exact a x z
theorem AB.nil:AB rows w []:=λ_ h=>by cases h
theorem AB.cons(h:qH rows w y)(a:AB rows w ys):AB rows w (y::ys):=λx hx=>by
 rcases Ml.mp hx with rfl|z
 .exact h
 .exact a x z
end
theorem c206(k:Nat)(a:List Str)(w:Nat)(b:List (Int×Int))(O:Wd a w)(J:a≠[])(C:a.length<=8)(s:w<=8)(D:Pl a w b) :
  ∃v,aC P (k+2) 206 [.tup (a.map .str),.tup (b.map aN)]=some v/\∃j,v=.lst j/\AB a w j/\j.length<=64/\∀x∈j,eG 11 x=true:=by
 refine nR rfl rfl ?_;simp only[Le,entry];have M:=dw D;have S:=vp C s;have r:=c66 k a w O J C s;rw[qB]at r;walk_at "ev";rw[bN a,ba b];refine cN (xs:=(cI a w).map aN) (n:=true) ?_ (λi m=>∃(d:List PV)(c:TV),m=[.frz (.tup (a.map .str)) true,.frz (.tup (b.map aN)) true,.own d true,c]/\AB a w d/\d.length<=i/\∀x∈d,eG 11 x=true) ⟨[],.un,rfl,.nil,Mc _,λ_ h=>by cases h⟩ ?_ ?_
 .walk_at "ev"
  rw[r];walk_at "ev"
 .rintro i y m f ⟨d,c,rfl,B,L,I⟩
  rw[Mp]at f;obtain⟨q,u,rfl⟩:∃q,(cI a w)[i]? =some q/\y=aN q:=by
   cases e:(cI a w)[i]? with
   |none=>rw[e]at f;cases f|some q=>rw[e]at f;cases f;exact⟨q,rfl,rfl⟩
  have U:=(Mh.mp u).1;refine⟨_,rfl,?_⟩;walk_at "ev";rw[Ma (by rw[MT];omega),cC (p:=zB q) λx E=> ?l]
  case l =>unfold zB aN;walk_at "ev";cases decide (x.1=q.1)<;>cases decide (x.2=q.2)<;>rfl
  walk_at "ev";rw[MT]
  by_cases l:b.filter (zB q)=[]
  .rw[l,show decide ((0:Int)<((([]:List (Int×Int)).length:Nat):Int))=false from rfl]
   walk_at "ev";exact⟨d,_,rfl,B,by omega,I⟩
  .rw[show decide ((0:Int)<(((b.filter (zB q)).length:Nat):Int))=true from Mv (by have:=List.length_pos_iff.mpr l;omega)]
   have N:∀p∈b++[q],0<=p.2/\p.2<1000:=λp hp=>by
    have:ay a w (aN p)=true:=by
     rcases M7.mp hp with z|z
     .exact D.cell p z
     .rw[My.mp z]
      exact jj.mp (Mu u)
    have:=cell_in this;omega
   have A:b.map aN++[aN q]=(b++[q]).map aN:=by rw[Mr];rfl
   have R:(b++[q]).length<=9:=by rw[Mj];show b.length+1<=9;omega
   walk_at "ev";rw[Ma (by rw[A,MT];omega)];walk_at "ev";rw[A,nN (by simp) (by omega) N];walk_at "ev";rw[cK rfl (by show d.length<16777216;omega)];walk_at "ev";refine⟨_,_,rfl,B.add (.cons (xq (v4 l) ?_) .nil),?_,?_⟩
   .rw[(cv _).length_eq]
    omega
   .rw[Mj]
    simp;omega
   .intro x E
    rcases M7.mp E with z|z
    .exact I x z
    .rw[My.mp z]
     show((cw (b++[q])).map aN).all (eG 10)=true;rw[Mn];intro y f;obtain⟨z,_,rfl⟩:=Md.mp f;rfl
 .rintro m ⟨d,c,rfl,B,L,I⟩
  rw[MT]at L;walk_at "ev";exact⟨_,rfl,d,rfl,B,by omega,I⟩
section
variable{cf:Nat->List PV->Option PV}{τ:En}
def Kp(b:Nat->List PV->Option PV)(c:En)(d:uS)(e:List PV):Prop:=∃a,dG b d c=some a/\keeps a=some (e,true)
theorem Kp.nil:Kp cf τ .nil []:=⟨[],rfl,rfl⟩
theorem Kp.cons{e:IE}{c:uS}{r:RV}{v:PV}{a:List PV}(g:aS cf e τ=some r)(f:r.keep=some (v,true))(h:Kp cf τ c a):Kp cf τ (.cons e c) (v::a):=by
 obtain⟨b,i,d⟩:=h;refine⟨r::b,?_,?_⟩
 .rw[zo,g,i]
  rfl
 .show(r.keep.bind λ(v,n)=>(keeps b).map λ(a,m)=>(v::a,n&&m))=_
  rw[f,d];rfl
theorem CK{vs:List PV}(h:Kp cf τ a vs)(e:vs.length<=1000):aS cf (.lst a) τ=some (.own vs true):=by obtain⟨c,d,b⟩:=h;rw[dS,d];show((keeps c).bind λ(vs,n)=>mf vs n)=_;rw[b];show(if vs.length<=16777216 then some (RV.own vs true)else none)=_;rw[Ma (by omega)]
theorem xY(h:Kp cf τ b a)(f:a.length<=1000):aS cf (.tup b) τ=some (.frz (.tup a) true):=by obtain⟨d,e,c⟩:=h;rw[dQ,e];show((keeps d).bind λ(a,n)=>pK a n)=_;rw[c];show(if a.length<=16777216 then some (RV.frz (.tup a) true)else none)=_;rw[Ma (by omega)]
theorem l9{v:PV}(b:aS cf e τ=some r)(a:r.keep=some (v,true)):aS cf (.tup (.cons e .nil)) τ=some (.frz (.tup [v]) true):=xY (Kp.cons b a Kp.nil) (by simp)
theorem iR{e2:IE}(e:aS cf c τ=some (.frz b true))(d:aS cf e2 τ=some (.frz a true)):aS cf (.tup (.cons (.tup (.cons c (.cons e2 .nil))) .nil)) τ=some (.frz (.tup [.tup [b,a]]) true):=l9 (xY (Kp.cons e rfl (Kp.cons d rfl Kp.nil)) (by simp)) rfl
theorem oH{xs ys:List PV}(c:aS cf a τ=some (.frz (.tup xs) true))(d:aS cf b τ=some (.frz (.tup ys) true))(e:xs.length+ys.length<=1000):aS cf (.bin .Add a b) τ=some (.frz (.tup (xs++ys)) true):=by rw[dL,c,d];show(if(xs++ys).length<=16777216 then some (RV.frz (.tup (xs++ys)) true)else none)=_;rw[Ma (by rw[Mj];omega)]
set_option tactic.hygienic true in
theorem De{xs:List PV}{j:Nat}(h:j<=xs.length):slice (.frz (.tup xs) true) (some (j:Int)) none=some (.frz (.tup (xs.drop j)) true):=by
 rw[wR];have a:HT.bZ xs.length 0 (some j)=j:=by rw[HT.Dl];omega
 have b:HT.bZ xs.length xs.length none=xs.length:=rfl;rw[a,b]
 split
 .rename_i c
  rw[c.1,List.drop_zero]
 .unfold cut
  rw[a,b,List.take_of_length_le];rw[O8];omega
theorem rN(g:Wd a w)(l:a≠[])(m:w<=8)(h:lj τ 0=some (.frz (.tup (a.map .str)) true)):aS cf (.bf .len (.cons (.ix (.var 0) (.con (.int 0))) .nil)) τ=some (sc (.int (w:Nat))):=by
 obtain⟨b,c⟩:∃z,a[0]? =some z:=by
  cases a with
  |nil=>exact absurd rfl l|cons z r=>exact⟨z,rfl⟩
 have d:=g b (Mu c);have j:ck (a.map PV.str) 0=some (.str b):=jL c;have f:fD (.str b)=some w:=by show(if b.length<=LN then some b.length else none)=some w;rw[Ma (by rw[d];show w<=16777216;omega),d]
 rw[dO,zo,cZ,cq,h];show(((((ck (a.map PV.str) 0).map λe=>RV.frz e (true||imm e))).bind λr=>((dG cf .nil τ).map (r::·))).bind λrs=>mR .len rs)=_;rw[j];show(fD (.str b)).map (λn=>sc (.int (n:Nat)))=_;rw[f];rfl
theorem kx{a:List Str}(h:lj τ 0=some (.frz (.tup (a.map .str)) true)):aS cf (.bf .len (.cons (.var 0) .nil)) τ=some (sc (.int (a.length:Nat))):=by rw[dO,zo,cq,h];show some (sc (.int ((a.map PV.str).length:Nat)))=_;rw[MT]
theorem CJ{b:IE}(c:aS cf a τ=some (sc (.int i)))(d:aS cf b τ=some (sc (.int j))):aS cf (.bin .Sub a b) τ=some (sc (.int (i-j))):=by rw[dL,c,d];rfl
end
section
variable{rows:List Str}{w:Nat}{ps:List (Int×Int)}{x:PV}
theorem cell_out{a b:Int}(h:¬(0<=a/\a<rows.length/\0<=b/\b<w)):ay rows w (.tup [.int a,.int b])=false:=by exact Mt λz=>h ⟨z.1,z.2.1,z.2.2.1,z.2.2.2.1⟩
theorem ii(a:ay rows w x=false)(b:DC x=true):qH rows w (.tup [x]) := qD MX a (λy hy=>by rwa[My.mp hy]) (by simp)
theorem kU(b:ps.length<=8)(a:ay rows w x=false)(c:DC x=true):qH rows w (.tup (ps.map aN++[x])) :=
 qD (by simp) a (λy hy=>by
  rcases M7.mp hy with z|z
  .exact GE z
  .rw[My.mp z]
   exact c) (by simp;omega)
theorem xr(b:ps.length<=8)(a:ay rows w x=false)(c:DC x=true):qH rows w (.tup ([x]++ps.map aN)) :=
 qD (by simp) a (λy hy=>by
  rcases M7.mp hy with z|z
  .rw[My.mp z]
   exact c
  .exact GE z) (by simp;omega)
end
abbrev Js(a:List Str)(w:Nat)(c:Fl):Prop:=∃v,bo (some c)=some v/\∃b,v=.lst b/\AB a w b
abbrev t7(c:List Str)(d:List (Int×Int))(n:Int)(e:List PV)(a b:TV):En:=[.frz (.tup (c.map .str)) true,.frz (.tup (d.map aN)) true,.frz (.int n) true,.own e true,a,b]
abbrev f7(c:List Str)(d:List (Int×Int))(n:Int)(e:List PV)(a b:TV):En:=[.frz (.tup (c.map .str)) true,.frz (.tup (d.map aN)) true,.frz (.int n) true,.frz (.lst e) true,a,b]
section
variable{cf:Nat->List PV->Option PV}{fu:Nat}{ss:uK}{rows:List Str}{ps:List (Int×Int)}{n:Int}{a b:TV}{xs:List PV}
theorem AS{vs:List PV}(d:Kp cf (f7 rows ps n xs a b) c vs)(e:xs.length+vs.length<=500):ar cf fu (.cons (.asg 3 true [3] (.bin .Add (.var 3) (.lst c))) ss) (t7 rows ps n xs a b)=ar cf fu ss (t7 rows ps n (xs++vs) a b):=by refine kr ?_;show((aS cf (.bin .Add (.var 3) (.lst c)) (f7 rows ps n xs a b)).bind λr=>(jV true 3 r (f7 rows ps n xs a b)).map Fl.nx)=_;rw[dL,CK d (by omega),cq];show((if(xs++vs).length<=16777216 then some (RV.own (xs++vs) true)else none).bind λr=>(jV true 3 r (f7 rows ps n xs a b)).map Fl.nx)=_;rw[Ma (by rw[Mj];omega)];rfl
theorem ug(c:aS cf e (t7 rows ps n xs a b)=some (.frz v true))(d:xs.length<=500):ar cf fu (.cons (.app 3 [] e) ss) (t7 rows ps n xs a b)=ar cf fu ss (t7 rows ps n (xs++[v]) a b):=by refine kr ?_;show((aS cf e (t7 rows ps n xs a b)).bind λr=>r.keep.bind λ(v,m)=>rQ 3 v m (t7 rows ps n xs a b))=_;rw[c];show rQ 3 v true (t7 rows ps n xs a b)=_;rw[cK rfl (by show xs.length<16777216;omega)];rfl
end
theorem Da(h:e 206 [.tup (c.map .str),.tup (d.map aN)]=some (.lst g)):fJ e i (.asg 4 false [] (.call 206 (.cons (.var 0) (.cons (.var 1) .nil)))) (t7 c d n f a b)=some (.nx (t7 c d n f (.frz (.lst g) true) b)):=by show(((e 206 [.tup (c.map .str),.tup (d.map aN)]).map oh).bind λr=>(jV false 4 r (t7 c d n f a b)).map Fl.nx)=_;rw[h];rfl
set_option tactic.hygienic true in
theorem pH(s b:Str)(e d:Nat):∀(l:List Nat)(f:Array Nat×Nat),(∀i∈f.fst.toList,i+b.length<=e/\Builtin.Str.subAt s b i=true)->∀i∈(forIn l f (StrLaws.occBody s b e d)).run.fst.toList,i+b.length<=e/\Builtin.Str.subAt s b i=true
 |[],f,h=>h|a::l,f,h=>by
  rw[List.forIn_cons];unfold StrLaws.occBody
  split
  .rename_i c
   refine pH s b e d l _ λi e=> ?_;rw[Array.toList_push]at e
   rcases M7.mp e with z|z
   .exact h i z
   .rw[My.mp z]
    exact⟨c.1.2,c.2⟩
  .exact pH s b e d l _ h
theorem Em(h:Txt.contains z ⟨#[c]⟩=true):∃j,Bv z ⟨#[c]⟩=some j/\z.cps.toList[j]? =some c:=by
 unfold Txt.contains at h;unfold Bv;cases e:Builtin.Str.occurrences z ⟨#[c]⟩ 0 z.length 1 with
 |nil=>rw[e]at h;cases h|cons j r =>refine⟨j,rfl,(StrLaws.subAt_one z c j).mp ?_⟩;rw[StrLaws.occ_eq]at e;exact pH z ⟨#[c]⟩ _ _ _ (#[],0) (λi hi=>by simp at hi) j (by rw[e];exact MX)
section
variable(k:Nat)(rows:List Str)(w:Nat)(ps:List (Int×Int))(n:Int)(hw:Wd rows w)(h0:rows≠[])(h8:rows.length<=8)(w8:w<=8)(pl:Pl rows w ps)
include hw h0 h8 w8 pl
theorem KU(a b:TV)(xs:List PV)(hx:AB rows w xs)(hl:xs.length<=200):To (ar (aC P (k+2)) 1000000 (cB 7 dP.body) (t7 rows ps n xs a b)) (Js rows w):=by
 have hps:=dw pl;have fin:∀ys,AB rows w ys->To (ar (aC P (k+2)) 1000000 (.cons (.ret [3] (.var 3)) .nil) (t7 rows ps n ys a b)) (Js rows w):=λys hy=>⟨_,rfl,_,rfl,ys,rfl,hy⟩;rw[show cB 7 dP.body=.cons (.ife _ (.cons (.app 3 [] _) .nil) .nil) (.cons (.ret [3] (.var 3)) .nil)from rfl];cases ps with
 |nil=>exact fin xs hx|cons q qs =>
  rw[bK,ly];have ix0:aS (aC P (k+2)) (.ix (.var 1) (.con (.int 0))) (t7 rows (q::qs) n xs a b)=some (.frz (aN q) true):=by rw[cZ];show(ck ((q::qs).map aN) ((0:Nat):Int)).map (λe=>RV.frz e (true||imm e))=_;rw[bD rfl];rfl
  have ix1:aS (aC P (k+2)) (.ix (.ix (.var 1) (.con (.int 0))) (.con (.int 1))) (t7 rows (q::qs) n xs a b)=some (.frz (.int q.2) true):=by rw[cZ,ix0];rfl
  have ix2:aS (aC P (k+2)) (.ix (.ix (.var 1) (.con (.int 0))) (.con (.int 0))) (t7 rows (q::qs) n xs a b)=some (.frz (.int q.1) true):=by rw[cZ,ix0];rfl
  have ix3:aS (aC P (k+2)) (.cmp .Eq (.ix (.ix (.var 1) (.con (.int 0))) (.con (.int 1))) (.con (.int 1))) (t7 rows (q::qs) n xs a b)=some (.frz (.bl (decide (q.2=1))) true):=by rw[dN,ix1];rfl
  have ec:d0 (aC P (k+2)) (.and (.val (.cmp .Gt (.bf .len (.cons (.var 1) .nil)) (.con (.int 0)))) (.val (.cmp .Lt (.ix (.ix (.var 1) (.con (.int 0))) (.con (.int 1))) (.con (.int 2))))) (t7 rows (q::qs) n xs a b)=some (decide (q.2<2)):=by rw[zf,show d0 (aC P (k+2)) (.val (.cmp .Gt (.bf .len (.cons (.var 1) .nil)) (.con (.int 0)))) (t7 rows (q::qs) n xs a b)=some (decide ((0:Int)<(((q::qs).map aN).length:Nat)))from rfl,Mv (by rw[MT,Mq];omega),M5,Ma rfl,ze,dN,ix1];rfl
  rw[ec,M5]
  by_cases h2:q.2<2
  .rw[Ma (Mv h2)]
   have hsl:aS (aC P (k+2)) (.sl (.var 1) (.yes (.con (.int 1))) .no) (t7 rows (q::qs) n xs a b)=some (.frz (.tup (qs.map aN)) true):=by rw[dR,KJ,KI];exact De (xs:=(q::qs).map aN) (j:=1) (by simp)
   rw[ug (oH (iR ix2 ix3) hsl (by simp at hps ⊢;omega)) (by omega),eY,M5,ef];refine fin _ (hx.add (.cons ?_ .nil));exact xr (by simp at hps;omega) (bI rfl) rfl
  .rw[MY (by simpa using h2),eY,M5,ef]
   exact fin xs hx
theorem Fx(a b:TV)(d:List PV)(s:AB rows w d)(x:d.length<=100):To (ar (aC P (k+2)) 1000000 (cB 6 dP.body) (t7 rows ps n d a b)) (Js rows w):=by
 refine cN (xs:=(List.range rows.length).map λi=>.int (0+(i:Nat))) (n:=true) ?_ (λi f=>∃(c:List PV)(b:TV),f=t7 rows ps n c a b/\AB rows w c/\c.length<=100+i) ⟨d,b,rfl,s,by omega⟩ ?_ ?_
 .walk_at "ev"
  simp only[o5,fk,MT];rw[Ma ⟨by omega,by omega⟩];rfl
 .rintro i y f o ⟨c,b,rfl,B,L⟩
  obtain⟨u,rfl⟩:=eR o;refine⟨_,rfl,?_⟩;obtain⟨z,l⟩:∃z,rows[i]? =some z:=⟨_,Mk u⟩;have g:Str.ofString "."=⟨#[46]⟩:=by decide
  walk_at "ev";rw[jL l];walk_at "ev";rw[g];cases r:Txt.contains z ⟨#[46]⟩with
  |false =>walk_at "ev";exact⟨c,_,rfl,B,by omega⟩
  |true =>
   obtain⟨j,p,e⟩:=Em r;walk_at "ev";rw[p];walk_at "ev";rw[cK rfl (by show c.length<16777216;omega)];walk_at "ev";refine⟨_,_,rfl,B.add (.cons (ii ?_ rfl) .nil),by rw[Mj];simp;omega⟩;refine Mt λq=> ?_;have m:=q.2.2.2.2;have h:cd rows i j=46:=by unfold cd;rw[show rows.getD i ⟨#[]⟩=z by rw[Mf,l];rfl,Mf,e];rfl
   rw[Nq,Nq,h]at m;cases m
 .rintro f ⟨c,b,rfl,B,L⟩
  rw[gw]at L;exact KU k rows w ps n hw h0 h8 w8 pl a b c B (by omega)
theorem Fy(a b:TV)(c:List PV)(e:AB rows w c)(i:c.length<=99):To (ar (aC P (k+2)) 1000000 (cB 5 dP.body) (t7 rows ps n c a b)) (Js rows w):=by
 have g:=dw pl;have d:(ps.map aN).length=ps.length:=MT ..;rw[show cB 5 dP.body=.cons (.ife _ (.cons (.app 3 [] _) .nil) .nil) (cB 6 dP.body)from rfl,bK,ly,show d0 (aC P (k+2)) (.val (.cmp .Gt (.bf .len (.cons (.var 1) .nil)) (.con (.int 1)))) (t7 rows ps n c a b)=some (decide (1<((ps.map aN).length:Int)))from rfl,M5,d]
 by_cases h:1<ps.length
 .rw[Ma (Mv (by omega))]
  have f:aS (aC P (k+2)) (.bf .trev (.cons (.var 1) .nil)) (t7 rows ps n c a b)=some (.frz (.tup (ps.map aN).reverse) true):=by show(if(ps.map aN).isEmpty then none else some (RV.frz (.tup (ps.map aN).reverse) true))=_;rw[MY];intro z;rw[List.isEmpty_iff_length_eq_zero,d]at z;omega
  rw[ug f (by omega),eY,M5,ef];refine Fx k rows w ps n hw h0 h8 w8 pl a b _ (e.add (.cons ?_ .nil)) (by rw[Mj];simp;omega);rw[<- List.map_reverse];exact xq (Fe pl h) (by rw[OR];omega)
 .rw[MY (by simp;omega),eY,M5,ef]
  exact Fx k rows w ps n hw h0 h8 w8 pl a b c e (by omega)
theorem tail3(a b:TV)(d:List PV)(h:AB rows w d)(A:d.length<=98):To (ar (aC P (k+2)) 1000000 (cB 3 dP.body) (t7 rows ps n d a b)) (Js rows w):=by
 obtain⟨v,f,c,rfl,Y,C,l⟩:=c206 k rows w ps hw h0 h8 w8 pl;have p:fJ (aC P (k+2)) 1000000 (.asg 4 false [] (.call 206 (.cons (.var 0) (.cons (.var 1) .nil)))) (t7 rows ps n d a b)=some (.nx (t7 rows ps n d (.frz (.lst c) true) b)):=Da f;have o:d0 (aC P (k+2)) (.val (.cmp .NotEq (.var 4) (.lst .nil))) (t7 rows ps n d (.frz (.lst c) true) b)=some (!c.isEmpty):=by
  show((((aq .NotEq (.lst c) (.lst [])).map λr=>sc (.bl r))).bind λr=>nH r.val)=_;rw[xh];have u:eG 12 (.lst c)=true:=by show c.all (eG 11)=true;rwa[Mn]
  rw[u];cases c with
  |nil=>rfl|cons q r=>rfl
 rw[show cB 3 dP.body=.cons (.asg 4 false [] _) (.cons (.ife _ (.cons (.app 3 [] _) .nil) .nil) (cB 5 dP.body))from rfl,kr p,bK,ly,o,M5];cases m:c.isEmpty with
 |true=>exact Fy k rows w ps n hw h0 h8 w8 pl (.frz (.lst c) true) b d h (by omega)|false =>
  have y:0<c.length:=by
   cases c with
   |nil=>cases m|cons _ _=>rw[Mq];omega
  have z:0<=n%(c.length:Int):=PP _ (by omega);have x:n%(c.length:Int)<c.length:=PR n (by omega);obtain⟨j,i⟩:∃j:Nat,n%(c.length:Int)=j:=⟨(n%(c.length:Int)).toNat,by omega⟩;have g:j<c.length:=by omega
  have s:aS (aC P (k+2)) (.ix (.var 4) (.bin .Mod (.var 2) (.bf .len (.cons (.var 4) .nil)))) (t7 rows ps n d (.frz (.lst c) true) b)=some (.frz c[j] true):=by
   have:aS (aC P (k+2)) (.bin .Mod (.var 2) (.bf .len (.cons (.var 4) .nil))) (t7 rows ps n d (.frz (.lst c) true) b)=some (sc (.int j)):=by show(if(0:Int)<(c.length:Int)then some (sc (.int (n%(c.length:Int))))else none)=_;rw[Ma (by omega),i]
   rw[cZ,this,cq];show(ck c j).map (λe=>RV.frz e (true||imm e))=_;rw[bD (Mk g)];rfl
  rw[show(!false)=true from rfl,Ma rfl,ug s (by omega),eY,M5,ef];exact Fy k rows w ps n hw h0 h8 w8 pl (.frz (.lst c) true) b _ (h.add (.cons (Y _ (OI g)) .nil)) (by rw[Mj];simp;omega)
theorem KW(e:1<=w)(a b:TV)(c:List PV)(d:AB rows w c)(f:c.length<=90):To (ar (aC P (k+2)) 1000000 (cB 2 dP.body) (t7 rows ps n c a b)) (Js rows w):=by
 rw[show cB 2 dP.body=.cons (.asg 3 true [3] (.bin .Add (.var 3) (.lst _))) (cB 3 dP.body)from rfl,AS (Kp.cons (iR rfl (CJ rfl (rN hw h0 w8 rfl))) rfl (Kp.cons (iR rfl rfl) rfl (Kp.cons (iR rfl rfl) rfl (Kp.cons (l9 (xY (Kp.cons rfl rfl (Kp.cons rfl rfl (Kp.cons rfl rfl Kp.nil))) (by simp)) rfl) rfl (Kp.cons (l9 (CK (Kp.cons rfl rfl (Kp.cons rfl rfl Kp.nil)) (by simp)) rfl) rfl (Kp.cons (xY (Kp.cons rfl rfl (Kp.cons rfl rfl Kp.nil)) (by simp)) rfl (Kp.cons (l9 rfl rfl) rfl Kp.nil))))))) (by simp;omega)]
 exact tail3 k rows w ps n hw h0 h8 w8 pl a b _ (d.add (.cons (ii (cell_out (by omega)) rfl) (.cons (ii (bI rfl) rfl) (.cons (ii (bI rfl) rfl) (.cons (ii (bI (re (by simp))) rfl) (.cons (ii (bI rfl) rfl) (.cons (qD MX (bI rfl) (λy hy=>by simp at hy;rw[hy];rfl) (by simp)) (.cons (ii (bI rfl) rfl) .nil)))))))) (by rw[Mj];simp;omega)
theorem KY(e:1<=w)(a b:TV)(c:List PV)(d:AB rows w c)(g:c.length<=80):To (ar (aC P (k+2)) 1000000 (cB 1 dP.body) (t7 rows ps n c a b)) (Js rows w):=by
 have f:=dw pl
 rw[show cB 1 dP.body=.cons (.asg 3 true [3] (.bin .Add (.var 3) (.lst _))) (cB 2 dP.body)from rfl,AS (Kp.cons (oH (iR rfl rfl) rfl (by simp;omega)) rfl (Kp.cons (oH rfl (l9 rfl rfl) (by simp;omega)) rfl (Kp.cons (oH rfl (l9 (l9 rfl rfl) rfl) (by simp;omega)) rfl (Kp.cons (iR rfl rfl) rfl (Kp.cons (iR (CJ (kx rfl) rfl) rfl) rfl Kp.nil))))) (by simp;omega)]
 exact KW k rows w ps n hw h0 h8 w8 pl e a b _ (d.add (.cons (xr (by omega) (cell_out (by omega)) rfl) (.cons (kU (by omega) (bI rfl) rfl) (.cons (kU (by omega) (bI rfl) rfl) (.cons (ii (cell_out (by omega)) rfl) (.cons (ii (cell_out (by omega)) rfl) .nil)))))) (by rw[Mj];simp;omega)
theorem c207(j:1<=w):∃v,aC P (k+3) 207 [.tup (rows.map .str),.tup (ps.map aN),.int n]=some v/\∃g,v=.lst g/\AB rows w g:=by
 have l:=dw pl;refine nR rfl rfl ?_;have m:entry dP [.tup (rows.map .str),.tup (ps.map aN),.int n]=[.frz (.tup (rows.map .str)) true,.frz (.tup (ps.map aN)) true,.frz (.int n) true,.un,.un,.un]:=by simp only[dP,entry];walk_at "ev";rw[bN rows,ba ps]
 rw[show dP.body=.cons (.asg 3 true [] (.lst _)) (cB 1 dP.body)from rfl,m]
 generalize a:([.frz (.tup (rows.map .str)) true,.frz (.tup (ps.map aN)) true,.frz (.int n) true,.un,.un,.un]:En)=τ
 have f:lj τ 0=some (.frz (.tup (rows.map .str)) true):=by rw[<- a];rfl
 have h:aS (aC P (k+2)) (.var 1) τ=some (.frz (.tup (ps.map aN)) true):=by rw[<- a];rfl
 have i:aS (aC P (k+2)) (.bf .list (.cons (.var 1) .nil)) τ=some (.own (ps.map aN) true):=by rw[<- a];rfl
 have e:=CK (Kp.cons i rfl (Kp.cons (oH h (iR (e2:=.con (.int 0)) (kx f) rfl) (by simp;omega)) rfl (Kp.cons (oH h (iR (CJ (b:=.con (.int 1)) (kx f) rfl) (rN hw h0 w8 f)) (by simp;omega)) rfl (Kp.cons (e:=.con .non) rfl rfl (Kp.cons (e:=.con (.str "x")) rfl rfl (Kp.cons (e:=.con (.int 0)) rfl rfl Kp.nil)))))) (by simp);rw[kr (τ1:=t7 rows ps n [.lst (ps.map aN),.tup (ps.map aN++[.tup [.int rows.length,.int 0]]),.tup (ps.map aN++[.tup [.int (rows.length-1),.int w]]),.non,.str "x",.int 0] .un .un)]
 .exact KY k rows w ps n hw h0 h8 w8 pl j .un .un _ (.cons (ig rfl (λxs z=>by cases z)) (.cons (kU (by omega) (cell_out (by omega)) rfl) (.cons (kU (by omega) (cell_out (by omega)) rfl) (.cons (ig rfl (λxs z=>by cases z)) (.cons (ig rfl (λxs z=>by cases z)) (.cons (ig rfl (λxs z=>by cases z)) .nil)))))) (by simp)
 .rw[l5]
  show((aS (aC P (k+2)) _ τ).bind λr=>(jV true 3 r τ).map Fl.nx)=_;rw[e,<-a];rfl
end
theorem FC(d:Wd a w)(g:a.length<=8)(f:w<=8)(h:(kz (bF a)).length<=s):cnt (a.map aT) [] s=0:=by
 obtain⟨N,e,j,c⟩:=o0 (bF a) (gk a g (Ju d f));have i:rk s (bF a)=cnt (a.map aT) [] s:=by have b:=jS (a.map aT) s 0 [];rwa[fw]at b
 rw[<- i];refine c s ?_;rwa[e,MT,NT]at h
abbrev E5(g:List Int)(f:List Str)(D:Int)(a b c d e:TV):En:=[.frz (.lst (g.map PV.int)) false,.frz (.tup (f.map PV.str)) true,.frz (.lst ((kz (bF f)).map .int)) true,.frz (.int D) true,a,b,c,d,e]
theorem BZ:∀g:List Int,g.length<=63->aC P 40 208 [.lst (g.map PV.int)]=some (.bl true):=by
 intro g U;obtain⟨v6,C,d,M,rfl⟩:=c62 37 (g.getD 0 0) (g.getD 1 0) 6 (by decide) (by decide);obtain⟨w,w1,w2,q⟩:=M.wide;have v:=M.some;have h6:=M.few;have o:d.length<=8:=by omega
 have l:w<=8:=by omega
 have C:aC P 39 62 [.int (g.getD 0 0),.int (g.getD 1 0),.int 6]=some (.tup (d.map PV.str)):=C;have a0:aC P 39 4 [.lst (g.map PV.int),.int 0]=some (.int (g.getD 0 0)):=c4 38 g 0;have a1:aC P 39 4 [.lst (g.map PV.int),.int 1]=some (.int (g.getD 1 0)):=c4 38 g 1;have T:aC P 39 4 [.lst (g.map PV.int),.int 2]=some (.int (g.getD 2 0)):=c4 38 g 2;obtain⟨a3,s,D,hD,rfl⟩:=c20 37 (g.getD 2 0);obtain⟨v1,E,p,rfl,z⟩:=c170 37 d w (D/7) (D%7) q v o l;obtain⟨A,_,_,L⟩:=c5 38 D 3 (by decide) (by decide);have L:aC P 39 5 [.int D,.int 3]=some (.int A):=L;obtain⟨v7,H,u,rfl,B⟩:=c207 36 d w p A q v o l z w1;have S:aC P 39 169 _=_:=c169 35 d w p q v o l z;have Y:aC P 39 167 _=_:=Ly 35 q v o l z;have R:aC P 39 9 _=_:=c9p 33 p;have X:0<=D%100000000000000000000:=PP _ (by decide)
 generalize Q:D%100000000000000000000=r at X
 have N:((if Int.natAbs 10<18446744073709551616 then some (RV.frz (PV.int (10^Int.toNat 20)) true)else none).bind λy=>cT .Mod (RV.frz (PV.int D) true) y)=some (.frz (.int r) true):=by rw[<- Q];rfl
 have J:∀f n:Int,(f<0\/((kz (bF d)).length:Int)<=f)->aC P 39 204 [.tup (d.map .str),.int f,.int n]=some (.bl true):=λsize n h=>by
  refine Lx 34 q o l ?_
  rcases h with h|h
  .rw[MY (by omega)]
   omega
  .rw[Ma (by omega),FC q o l (by omega)]
   omega
 have x:∀n:Int,(n<0\/cnt (d.map aT) [] p.length<=n)->aC P 39 204 [.tup (d.map .str),.int (p.length:Nat),.int n]=some (.bl true):=λn h=>by refine Lx 34 q o l ?_;rw[Ma (by omega),Nq];omega
 refine cH rfl rfl ?_;simp only[Ld,entry];walk_at "ev";rw[a0];walk_at "ev";rw[a1];walk_at "ev";rw[C];walk_at "ev";rw[c64 38 d w q o l];walk_at "ev";rw[T];walk_at "ev";rw[s];walk_at "ev";refine cN (xs:=[.int (-1),.int ((kz (bF d)).length:Nat),.int (((kz (bF d)).length:Nat)+r),.int (-2-r)]) (n:=true) ?_ (λi j=>∃a b,j=E5 g d D a b .un .un .un) ⟨_,_,rfl⟩ ?_ ?_
 .walk_at "ev"
  rw[N];walk_at "ev";rw[MT]
 .rintro i y j e ⟨a,b,rfl⟩
  obtain⟨f,rfl,hs⟩:∃f:Int,y=.int f/\(f<0\/((kz (bF d)).length:Int)<=f):=by
   match i,e with
   |0,e=>cases e;exact⟨_,rfl,.inl (by omega)⟩|1,e=>cases e;exact⟨_,rfl,.inr (by omega)⟩|2,e=>cases e;exact⟨_,rfl,.inr (by omega)⟩|3,e=>cases e;exact⟨_,rfl,.inl (by omega)⟩|i+4,e=>simp at e
  refine⟨_,rfl,?_⟩;rw[bK];refine cN (xs:=[.int 0,.int (-1),.int 1,.int D]) (n:=true) ?_ (λi j=>∃b,j=E5 g d D (.frz (.int f) true) b .un .un .un) ⟨_,rfl⟩ ?_ ?_
  .walk_at "ev"
  .rintro i y j e ⟨b,rfl⟩
   obtain⟨m,rfl⟩:∃m:Int,y=.int m:=by
    match i,e with
    |0,e=>cases e;exact⟨_,rfl⟩|1,e=>cases e;exact⟨_,rfl⟩|2,e=>cases e;exact⟨_,rfl⟩|3,e=>cases e;exact⟨_,rfl⟩|i+4,e=>simp at e
   refine⟨_,rfl,?_⟩;walk_at "ev";rw[J f m hs];walk_at "ev";exact⟨_,rfl⟩
  .rintro j ⟨b,rfl⟩
   walk_at "ev";exact⟨_,_,rfl⟩
 .rintro j ⟨a,b,rfl⟩
  walk_at "ev";rw[E];walk_at "ev";rw[MT,vE q o l z];walk_at "ev";refine cN (xs:=[.int (-1),.int (cnt (d.map aT) [] p.length),.int (cnt (d.map aT) [] p.length+r),.int (-1-r)]) (n:=true) ?_ (λi j=>∃b,j=E5 g d D a b (.frz (.tup (p.map aN)) true) (.frz (.int (cnt (d.map aT) [] p.length)) true) .un) ⟨_,rfl⟩ ?_ ?_
  .walk_at "ev"
   rw[N];walk_at "ev"
  .rintro i y j e ⟨b,rfl⟩
   obtain⟨m,rfl,W⟩:∃m:Int,y=.int m/\(m<0\/cnt (d.map aT) [] p.length<=m):=by
    match i,e with
    |0,e=>cases e;exact⟨_,rfl,.inl (by omega)⟩|1,e=>cases e;exact⟨_,rfl,.inr (by omega)⟩|2,e=>cases e;exact⟨_,rfl,.inr (by omega)⟩|3,e=>cases e;exact⟨_,rfl,.inl (by omega)⟩|i+4,e=>simp at e
   refine⟨_,rfl,?_⟩;walk_at "ev";rw[MT,x m W];walk_at "ev";exact⟨_,rfl⟩
  .rintro j ⟨b,rfl⟩
   rw[bK];refine cN (xs:=u) (n:=true) ?_ (λi j=>∃c,j=E5 g d D a b (.frz (.tup (p.map aN)) true) (.frz (.int (cnt (d.map aT) [] p.length)) true) c) ⟨_,rfl⟩ ?_ ?_
   .walk_at "ev"
    rw[L];walk_at "ev";rw[H];walk_at "ev"
   .rintro i y j e ⟨c,rfl⟩
    have O:∀b,aC P 39 205 [.tup (d.map .str),y,.bl b]=some (.bl true):=λb=>c205 34 q v o l (B y (Mu e));refine⟨_,rfl,?_⟩;walk_at "ev";rw[O];walk_at "ev";rw[O];walk_at "ev";exact⟨_,rfl⟩
   .rintro j ⟨c,rfl⟩
    walk_at "ev";rw[S];walk_at "ev";rw[MT,Y];walk_at "ev";rw[R];walk_at "ev"
end Law
namespace Law
open PySem PySem.Spec PyProof.Rows L2 IR
abbrev uV(e:Str)(f:List Str)(b:Stmt):Prop:=∀(i c h:Value)(g:Option Addr)(d ct:Value)(a:List Value),a.length=f.length->bindArgs (W.fnOf e e (cX b) (aa b) (aJ b) .none i c h g d ct) ⟨a,[]⟩=pure (f.zip a)
local macro_rules | `(tactic| walk_at "bd1") => `(tactic| (intro _ _ _ _ _ _ us hl; obtain ⟨_, h⟩ := IM hl; subst h; rfl))
local macro_rules | `(tactic| walk_at "bd2") => `(tactic| (intro _ _ _ _ _ _ us hl; obtain ⟨_, _, h⟩ := IL hl; subst h; rfl))
local macro_rules | `(tactic| walk_at "bd3") => `(tactic| (intro _ _ _ _ _ _ us hl; obtain ⟨_, _, _, h⟩ := BU hl; subst h; rfl))
local macro_rules | `(tactic| walk_at "bd4") => `(tactic| (intro _ _ _ _ _ _ us hl; obtain ⟨_, _, _, _, h⟩ := len4 hl; subst h; rfl))
local macro_rules | `(tactic| walk_at "sc") => `(tactic| exact ⟨rfl, rfl, rfl, by decide +kernel, rfl, by decide +kernel, by decide +kernel⟩)
theorem nO{K:W.Frag}(X:K.In h)(b:h.Ns mainGlobals a)(z:W.nsIn K mainGlobals x=some none):a x=none:=W.mg_none_of X b z
section
variable{K:W.Frag}{h:Heap}{mg:Str->Option Value}{nm:Str}{ps:List Str}{st:Stmt}{f:Addr}{k:Nat}{oc kV doc pm cd ct:Value}{od an:Option Addr}{sl:Array (Option Value)}(X:K.In h)(Gh:h.Ns mainGlobals mg)(a:FI K nm st f oc kV doc pm cd ct od an sl)
include X Gh a
theorem xC(b:uV nm ps st):uT K mg nm st ps f (W.fnOf nm nm (cX st) (aa st) (aJ st) .none kV doc pm an cd ct):=⟨Bz a.l a.c a.k,W.mg_of X Gh a.a,(Bz a.l a.c a.k).binds b⟩
theorem mkE(N:List Str)(n:Nat)(M:List Nat){body:uK}(b:uV nm (N.take n) st)(d:az N (N.take n) (aJ st))(e:P k=some ⟨N.length,(N.take n).length,body⟩)(c:fK 80 ⟨N,(aJ st).names,F,G,B,M⟩ (aa st)=body):zj K mg P F G B nm k f (W.fnOf nm nm (cX st) (aa st) (aJ st) .none kV doc pm an cd ct) (N.take n):=⟨.inr ⟨st,N,M,80,body,xC X Gh a b,d,e,c⟩⟩
omit a in
theorem kI(a:FX K nm st)(N:List Str)(n:Nat)(M:List Nat){body:uK}(b:uV nm (N.take n) st)(d:az N (N.take n) (aJ st))(e:P k=some ⟨N.length,(N.take n).length,body⟩)(c:fK 80 ⟨N,(aJ st).names,F,G,B,M⟩ (aa st)=body):∃a i g,zj K mg P F G B nm k a i g:=by obtain⟨_,_,_,_,_,_,_,_,_,_,a⟩:=a;exact⟨_,_,_,mkE X Gh a N n M b d e c⟩
end
set_option tactic.hygienic false
theorem Je{l:W.OpenLaw}{K:W.Frag}(X:K.In h)(c:h.Ns mainGlobals q)(b5:q "law"=some (.ref M))(T:L9 K) :
  ∃J:FuncData,(∀(s:Shared)(v:Value),BindsTo s J ⟨[v],[]⟩ [("_law_script",v)])/\∀d:Heap,K.In d->d.Ns mainGlobals q->bQ l.prog w K q d iw 40 M J ["_law_script"] (wQ K):=by
 have i:∀x,B.contains x=true->q x=none:=cQ (nO X c T.z0) (cQ (nO X c T.z1) (cQ (nO X c T.z2) (cQ (nO X c T.z3) (cQ (nO X c T.z4) (cQ (nO X c T.z5) (cQ (nO X c T.z6) (cQ (nO X c T.z7) (cQ (nO X c T.z8) (cQ (nO X c T.z9) (cQ (nO X c T.z10) (cQ (nO X c T.z11) (cQ (nO X c T.z12) (cQ (nO X c T.z13) (cQ (nO X c T.z14) (cQ (nO X c T.z15) (cQ (nO X c T.z16) (bnil)))))))))))))))));have Y:∀x v,G.lookup x=some v->∃u w,q x=some u/\RelV w u/\∀Hi n H,Rp K Hi n v H w:=by obtain⟨k0,v0⟩:=T.v0;exact LY ⟨_,(.str "x"),W.mg_of X c v0,⟨_,rfl⟩,λ_ _ _=>Rp.str.mpr rfl⟩ (gnil)
 obtain⟨g0,g1,g2,g3,g4,_,_,_,_,_,C⟩:=T.cx;have cls:xz K q g0 g1 g2 g3 g4:=⟨⟨W.mg_of X c C.y0,by rw[C.yc0];rfl,C.yt0⟩,⟨W.mg_of X c C.y1,by rw[C.yc1];rfl,C.yt1⟩,⟨W.mg_of X c C.y2,by rw[C.yc2];rfl,C.yt2⟩,⟨W.mg_of X c C.y3,by rw[C.yc3];rfl,C.yt3⟩,⟨W.mg_of X c C.y4,by rw[C.yc4];rfl,C.yt4⟩,C.x14,⟨C.x0,C.x1,C.x2,C.x3,C.x4,C.x5,C.x6,by rw[C.yc0];rfl⟩,C.x7,C.x8,C.x9,C.x10,C.x11,C.x12,C.x13,C.x15,C.x16,C.x17⟩;obtain⟨f6,p6,t6,u6,w6,y6,m6,q6,x6,r6,a6⟩:=T.a6;have I:=xC X c a6 (show uV "with_line" ["levels","bits"] _ by walk_at "bd2");obtain⟨f7,p7,t7,u7,w7,y7,m7,q7,x7,r7,a7⟩:=T.a7;have D7:=xC X c a7 (show uV "takes_column" ["choices","holders","row","tried"] _ by walk_at "bd4");obtain⟨f8,p8,t8,u8,w8,y8,m8,q8,x8,r8,a8⟩:=T.a8;have D8:=xC X c a8 (show uV "holders_of" ["choices"] _ by walk_at "bd1");obtain⟨d2,n5,p',l2,g5,l4,q3,l',e7,h8,b0⟩:=T.a13;have a':=xC X c b0 (show uV "placing_at" ["board","size","number"] _ by walk_at "bd3");obtain⟨g8,h9,n1,i1,h4,p0,h6,m2,d1,q2,b4⟩:=T.a15;have Z:=xC X c b4 (show uV "number_of" ["board","placing"] _ by walk_at "bd2");obtain⟨o3,h2,n9,f0,q',p2,e2,r4,o',f4,S⟩:=T.a16;have A:=xC X c S (show uV "free_columns" ["line","taken"] _ by walk_at "bd2");obtain⟨i',e8,c7,i3,p5,f2,h5,e5,e9,q4,U⟩:=T.a17;have y:=xC X c U (show uV "goes_on" ["board","begun","size"] _ by walk_at "bd3");obtain⟨n7,h0,f3,e6,q0,h3,k5,l0,r3,j1,Q⟩:=T.a18;have r:=xC X c Q (show uV "first_behind" ["board","begun","last","size"] _ by walk_at "bd4");obtain⟨r1,m1,k3,e',r0,g',l1,m4,e0,i2,O⟩:=T.a19;have c0:=xC X c O (show uV "next_placing" ["board","placing"] _ by walk_at "bd2");obtain⟨k2,q1,d',e3,i4,m',p3,f9,m5,o1,b7⟩:=T.a29;have j:=xC X c b7 (show uV "_law_row" ["_law_board_here"] _ by walk_at "bd1");obtain⟨p4,f5,h',j0,f1,l3,m3,f',q9,r2,b6⟩:=T.a30;have g:=xC X c b6 (show uV "_law_kinds" ["_law_error"] _ by walk_at "bd1");obtain⟨h7,n',e1,o2,n2,m0,i0,n3,p1,g6,L⟩:=T.a31;have m:=xC X c L (show uV "_law_at_refused" ["_law_board_here","_law_size","_law_number"] _ by walk_at "bd3");obtain⟨n4,c6,q5,p9,j',n0,c',k',j2,e4,b2⟩:=T.a32;have o:=xC X c b2 (show uV "_law_refused" ["_law_board_here","_law_thing","_law_by_next"] _ by walk_at "bd3");obtain⟨k4,g7,b3,R,c1,b1,N,c2,b',k1,D⟩:=T.a35;have e:=b5.symm.trans (W.mg_of X c D.a);cases e;have E:=mkE (k:=208) X c D N208 1 [] (by walk_at "bd1") (by walk_at "sc") rfl (by kernel_rfl);have hF:∀x f,F.lookup x=some f->∃a J ps,zj K q P F G B x f a J ps:=ai (kI (k:=3) X c T.a0 N3 1 [1] (by walk_at "bd1") (by walk_at "sc") rfl (by kernel_rfl)) (ai (kI (k:=109) X c T.a1 N109 1 [] (by walk_at "bd1") (by walk_at "sc") rfl (by kernel_rfl)) (ai (kI (k:=24) X c T.a2 N24 1 [] (by walk_at "bd1") (by walk_at "sc") rfl (by kernel_rfl)) (ai (kI (k:=25) X c T.a3 N25 2 [] (by walk_at "bd2") (by walk_at "sc") rfl (by kernel_rfl)) (ai (kI (k:=26) X c T.a4 N26 2 [] (by walk_at "bd2") (by walk_at "sc") rfl (by kernel_rfl)) (ai (kI (k:=46) X c T.a5 N46 1 [1] (by walk_at "bd1") (by walk_at "sc") rfl (by kernel_rfl)) (ai ⟨_,_,_,⟨.inl ⟨I.nm,I.fn.kp,I.bd,λp w b k z=>Iu (i "dict" rfl) (i "enumerate" rfl) I p w b k (z k (Mc k))⟩⟩⟩ (ai ⟨_,_,_,⟨.inl ⟨D7.nm,D7.fn.kp,D7.bd,fi (cc rfl)⟩⟩⟩ (ai ⟨_,_,_,⟨.inl ⟨D8.nm,D8.fn.kp,D8.bd,fi (cc rfl)⟩⟩⟩ (ai (kI (k:=163) X c T.a9 N163 1 [] (by walk_at "bd1") (by walk_at "sc") rfl (by kernel_rfl)) (ai (kI (k:=164) X c T.a10 N164 1 [] (by walk_at "bd1") (by walk_at "sc") rfl (by kernel_rfl)) (ai (kI (k:=165) X c T.a11 N165 1 [] (by walk_at "bd1") (by walk_at "sc") rfl (by kernel_rfl)) (ai (kI (k:=166) X c T.a12 N166 3 [] (by walk_at "bd3") (by walk_at "sc") rfl (by kernel_rfl)) (ai (kI (k:=167) X c T.a13 MF 3 [] (by walk_at "bd3") (by walk_at "sc") rfl (by kernel_rfl)) (ai (kI (k:=168) X c T.a14 N168 2 [] (by walk_at "bd2") (by walk_at "sc") rfl (by kernel_rfl)) (ai (kI (k:=169) X c T.a15 ME 2 [] (by walk_at "bd2") (by walk_at "sc") rfl (by kernel_rfl)) (ai ⟨_,_,_,⟨.inl ⟨A.nm,A.fn.kp,A.bd,fi (cc rfl)⟩⟩⟩ (ai ⟨_,_,_,⟨.inl ⟨y.nm,y.fn.kp,y.bd,fi (cc rfl)⟩⟩⟩ (ai ⟨_,_,_,⟨.inl ⟨r.nm,r.fn.kp,r.bd,fi (cc rfl)⟩⟩⟩ (ai (kI (k:=176) X c T.a19 MD 2 [] (by walk_at "bd2") (by walk_at "sc") rfl (by kernel_rfl)) (ai (kI (k:=4) X c T.a20 N4 2 [] (by walk_at "bd2") (by walk_at "sc") rfl (by kernel_rfl)) (ai (kI (k:=5) X c T.a21 N5 2 [] (by walk_at "bd2") (by walk_at "sc") rfl (by kernel_rfl)) (ai (kI (k:=20) X c T.a22 N20 1 [] (by walk_at "bd1") (by walk_at "sc") rfl (by kernel_rfl)) (ai (kI (k:=62) X c T.a23 N62 3 [6] (by walk_at "bd3") (by walk_at "sc") rfl (by kernel_rfl)) (ai (kI (k:=66) X c T.a24 N66 1 [1] (by walk_at "bd1") (by walk_at "sc") rfl (by kernel_rfl)) (ai (kI (k:=8) X c T.a25 N8 1 [] (by walk_at "bd1") (by walk_at "sc") rfl (by kernel_rfl)) (ai (kI (k:=9) X c T.a26 N9 2 [] (by walk_at "bd2") (by walk_at "sc") rfl (by kernel_rfl)) (ai (kI (k:=10) X c T.a27 N10 2 [] (by walk_at "bd2") (by walk_at "sc") rfl (by kernel_rfl)) (ai (kI (k:=170) X c T.a28 N170 3 [3] (by walk_at "bd3") (by walk_at "sc") rfl (by kernel_rfl)) (ai ⟨_,_,_,⟨.inl ⟨j.nm,j.fn.kp,j.bd,λp w b k z=>Ir (i "dict" rfl) (i "len" rfl) (i "range" rfl) (i "sorted" rfl) (i "tuple" rfl) j p w b k (z k (Mc k))⟩⟩⟩ (ai ⟨_,_,_,⟨.inl ⟨g.nm,g.fn.kp,g.bd,fi (cc rfl)⟩⟩⟩ (ai ⟨_,_,_,⟨.inl ⟨m.nm,m.fn.kp,m.bd,Es Y i cls a' g m⟩⟩⟩ (ai ⟨_,_,_,⟨.inl ⟨o.nm,o.fn.kp,o.bd,Er Y i cls c0 Z g o⟩⟩⟩ (ai (kI (k:=206) X c T.a33 N206 2 [2] (by walk_at "bd2") (by walk_at "sc") rfl (by kernel_rfl)) (ai (kI (k:=207) X c T.a34 N207 3 [3] (by walk_at "bd3") (by walk_at "sc") rfl (by kernel_rfl)) (ai ⟨_,_,_,E⟩ (fnil))))))))))))))))))))))))))))))))))));exact⟨W.fnOf "law" "law" (cX Dm) (aa Dm) (aJ Dm) .none b3 R c1 b' b1 N,λs v=>.of_eq rfl,λbase _ _=>IQ (JC Y i hF 40 "law" 208 M _ _ E) BZ⟩
theorem walk{l:W.OpenLaw}{q:Program}{c:List Str}{r:(Str->Option Value)->Heap->Prop}{i:World->Heap->Prop}{d:DefRec}{K:Params->W.Frag}(o:l.most=some 63)(g:d.params.defaults=[])
  (p:∀(w:World)(h:Heap),i w h->(K w.params).In h)
  (F:∀(w:World)(e:Str->Option Value)(j:Addr)(h:Heap),(K w.params).In h->h.Ns mainGlobals e->e d.name=some (.ref j) -> ∃m:FuncData,(∀(s:Shared)(u:Value),BindsTo s m ⟨[u],[]⟩ [("_law_script",u)])/\∀b:Heap,(K w.params).In b->b.Ns mainGlobals e->bQ l.prog w (K w.params) e b iw 40 j m ["_law_script"] (wQ (K w.params))) :
  W.WalkO q c r i l.row.toRowW d [] (λf vs=>PySem.call f vs) :=
 L2.DM o (by decide) g ⟨rfl,by decide,by decide⟩ p F (λ_ _ a ns hl _ hS=>⟨a,ns,rfl,hS,hl,λ_=>rfl⟩) λ_ _ _ _ _ z=>z
end Law
theorem PySem.Challenge.cw_unstruck_k54_order_refused_holds : PySem.Challenge.rw_unstruck_k54_order_refused.Holds := by
 refine LH.head fun K YP d hn hd hY T=> ?_;exact Law.walk (l:=PySem.Challenge.rw_unstruck_k54_order_refused) rfl hd hY fun w mg fa h X G m=>Law.Je X G (by rw[<- hn];exact m) (T w)
#print axioms PySem.Challenge.cw_unstruck_k54_order_refused_holds
