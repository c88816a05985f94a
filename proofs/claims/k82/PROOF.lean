import PyProof.Rows.All
import Wide.All
import OpenK.AllK
import Wide.FinOn
import Lean
import PyProof.EqAt
import PyProof.EqKinds
import PyProof.TupleCall
import PyProof.StrLawsTight
import PyProof.StrLawsChain
import PyProof.StrLawsOcc
import PyProof.Cells
import OpenK.KLine
import PyProof.SumAny
import PyProof.Rows.SortShell
import PyProof.DictItems
import PyProof.DictWalks
import KE.KRevIter
import PyProof.JoinWalk
import PyProof.CollectIter
import PyProof.StrLawsIn
import PyProof.Rows.SetFrom
import PyProof.CollectWalk
import PyProof.Rows.SortWalk
import KE.KSortTup
import KE.KxPercent
import PyProof.TupleOfGen
import KE.KDictList
import PyProof.P3In
import PyProof.NeData
import PyProof.FactsAll.tuple_2
import KE.KTryMore
import PyProof.ExcArgsOwn
import PyProof.ExcAttrAll.ValueError
import PyProof.ExcBaseAll.ValueError
import PyProof.InstStoreFacts
import PySem.Challenge.RW_unstruck_k82_report_refused
set_option bootstrap.genMatcherCode false
noncomputable section
local macro_rules|`($m:declModifiers def $i:declId $s:optDeclSig $v:declVal)=>if m.raw.getArgs.all (·.getNumArgs==0) then`(noncomputable def $i:declId $s:optDeclSig $v:declVal) else Lean.Macro.throwUnsupported
local macro_rules|`($m:declModifiers abbrev $i:declId $s:optDeclSig $v:declVal)=>if m.raw.getArgs.all (·.getNumArgs==0) then`(noncomputable abbrev $i:declId $s:optDeclSig $v:declVal) else Lean.Macro.throwUnsupported
set_option genSizeOf false
set_option genSizeOfSpec false
local macro_rules | `(tactic| omega) => `(tactic| first | lia | omega (config := {}))
set_option Elab.async false
set_option linter.all false
set_option maxRecDepth 100000
set_option maxHeartbeats 4000000
def Kr:=@List.length_map
def Ks:=@PySem.Heap.get?_push_of_some
def Kt:=@Bool.and_eq_true
def Ku:=@PySem.wpAny_bind
def Kv:=@List.getElem?_eq_getElem
def Kw:=@List.getElem?_eq_some_iff
def Kx:=@List.mem_cons_of_mem
def Ky:=@Nat.le_refl
def Kz:=@List.getD_eq_getElem?_getD
def K0:=@Bool.false_ne_true
def K1:=@List.size_toArray
def K2:=@Option.bind_some
def K5:=@if_pos
def K6:=@List.mem_cons_self
def K7:=@List.length_append
def K8:=@List.map_cons
def K9:=@List.mem_of_getElem?
def LA:=@List.getElem?_map
def LB:=@List.mem_cons
def LC:=@if_neg
def LD:=@List.mem_map
def LF:=@List.mem_singleton
def LG:=@PySem.Heap.lt_size
def LI:=@List.map_append
def LJ:=@of_decide_eq_true
def LK:=@List.length_cons
def LL:=@List.all_eq_true
def LM:=@Nat.le_trans
def LO:=@PySem.Heap.get?_push_size
def LP:=@List.mem_append
def LQ:=@List.mem_append_left
def LR:=@Option.some.inj
def LS:=@PySem.wpAny_pure
def LU:=@decide_eq_true
def LV:=@Nat.ne_of_lt
def LW:=@LawfulBEq.eq_of_beq
def LX:=@List.length_range
def LY:=@Nat.zero_le
def LZ:=@Array.length_toList
def La:=@Nat.lt_of_lt_of_le
def Lb:=@List.mem_append_right
def Lc:=@List.map_map
def Ld:=@decide_eq_false
def Le:=@PySem.mem_of_lookup
def Lf:=@List.getElem?_set_ne
def Lg:=@List.mem_range
def Lh:=@List.contains_iff_mem
def Li:=@List.not_mem_nil
def Lj:=@Option.map_some
def Lk:=@List.length_set
def Ll:=@List.getElem?_set_self
def Lm:=@List.lookup_cons
def Ln:=@List.length_take
def Lo:=@List.nodup_cons
def Lp:=@PySem.sizeLine_eq
def Lq:=@PySem.PassesOwn.never
def Lr:=@List.map_congr_left
def Lu:=@List.find?_cons
def Lw:=@PySem.Str.length_append
def Lx:=@beq_iff_eq
def Ly:=@List.mem_filter
def Lz:=@PySem.Heap.get?_update_other
def L0:=@PyProof.Rows.callWith_type1
def L4:=@Int.toNat_natCast
def L5:=@congrArg
def L6:=@PySem.wpAny_truthy_bool
def L7:=@Bool.eq_iff_iff
def L8:=@List.take_length
def L9:=@List.getElem?_append_left
def MA:=@List.replicate_succ
def MB:=@List.getElem?_range
def MC:=@Ne.symm
def MD:=@Bool.eq_false_iff
def ME:=@List.length_filter_le
def MF:=@PySem.wpAny_mono
def MG:=@Bool.or_eq_true
def MH:=@PySem.wpAny_holding
def MI:=@decide_eq_true_eq
def MJ:=@List.map_nil
def MK:=@Classical.byContradiction
def ML:=@List.length_drop
def MM:=@PySem.F.plainAttrs_list
def MN:=@Nat.lt_succ_of_lt
def MO:=@List.nodup_append
def MP:=@List.append_nil
def MQ:=@Nat.lt_irrefl
def MR:=@List.any_eq_true
def MS:=@Nat.lt_of_le_of_lt
def MT:=@List.lookup_append
def MU:=@List.contains_cons
def MV:=@Int.emod_lt_of_pos
def MW:=@List.length_singleton
def MX:=@List.getElem?_eq_none
def MY:=@Nat.pow_le_pow_right
def MZ:=@Nat.lt_trans
def Ma:=@List.take_add_one
def Mb:=@List.flatten_cons
def Mc:=@PySem.Heap.get?_update_self
def Md:=@Option.isSome_iff_exists
def Me:=@PySem.wpAny_loadPart'
def Mf:=@PySem.W.kia_one
def Mg:=@List.length_zipWith
def Mh:=@PySem.wpAny_loadPart_at
def Mi:=@PyProof.Rows.boot_tuple
def Mj:=@Option.getD_some
def Mk:=@List.getElem?_cons_succ
def Ml:=@decide_eq_true_iff
def Mm:=@PySem.F.plainAttrs_str
def Mn:=@PyProof.Rows.boot_list
def Mp:=@Nat.le_of_lt
def Mq:=@List.zip_cons_cons
def Mr:=@List.take_of_length_le
def Ms:=@PySem.wpAny_getItem_str_slice
def Mu:=@Int.emod_nonneg
def Mv:=@List.map_take
def Mw:=@List.any_cons
def Mx:=@List.length_replicate
def My:=@Bool.beq_eq_decide_eq
def Mz:=@Array.getElem?_toList
def M0:=@if_true
def M1:=@Bool.not_eq_true'
def M3:=@PySem.wpAny_passesOwn
def M4:=@PySem.boot_len
def M5:=@Nat.mul_le_mul_right
def M6:=@List.mem_of_mem_take
def M7:=@List.mem_iff_getElem
def M8:=@List.getElem?_append_right
def M9:=@Array.getElem?_eq_some_iff
def NA:=@Nat.succ_mul
def NB:=@Nat.ne_of_gt
def NC:=@Nat.min_self
def ND:=@List.mem_set
def NE:=@List.getElem_mem
def NG:=@List.getElem_map
def NH:=@List.all_map
def NJ:=@List.drop_eq_getElem_cons
def NK:=@List.filterMap_cons
def NM:=@if_false
def NO:=@List.sum_cons
def NP:=@List.getElem_range
def NQ:=@PySem.F.plainAttrs_dict
def NR:=@or_false
def NS:=@decide_false
def NT:=@Nat.mul_le_mul
def NU:=@List.reverse_cons
def NV:=@List.append_assoc
def NW:=@PySem.wpAny_Call_Name_kw
def NX:=@PySem.typeIs_str
def NY:=@PySem.Obj.data_mapFields
def NZ:=@PySem.wpAny_field
def Na:=@PyProof.Rows.boot_int
def Nb:=@List.getElem?_zipWith
def Nc:=@decide_eq_decide
def Nd:=@List.filter_cons
def Nf:=@List.all_cons
def Ng:=@PySem.Str.cps_append
def Nh:=@PySem.Calls.callWith_builtin
def Ni:=@Nat.le_succ
def Nj:=@List.mem_of_mem_drop
def Nk:=@List.eq_nil_of_length_eq_zero
def Nl:=@PyProof.Rows.boot_isinstance
def Nm:=@PySem.Obj.isFreed_of_fields
def No:=@Nat.add_le_add_left
def Np:=@Array.toList_append
def Nq:=@PySem.wpAny_call_entry
def Nr:=@PySem.call_meets
def Nt:=@Bool.or_true
def Nu:=@PySem.Heap.get?_none_of_le
def Nv:=@List.mem_replicate
def Nw:=@Bool.false_eq_true
def Nx:=@Bool.false_and
def Ny:=@PySem.wpAny_execs_nil
def Nz:=@List.mem_or_eq_of_mem_set
def N4:=@PySem.wpAny_isSubtype_exc
def N5:=@List.getElem?_set
def N6:=@Array.size_append
def N7:=@PySem.F.type_list_append
def N8:=@PySem.F.slot_list_append
def N9:=@PySem.F.slot_dict_values
def OA:=@List.map_drop
def OB:=@PySem.wpAny_setField
def OC:=@PySem.wpAny_pyIter_tuple
def OD:=@PySem.wpAny_call
def OE:=@PySem.tupleKind_room_in1
def OF:=@PySem.Heap.size_push
def OG:=@PySem.wpAny_pyIter_enum
def OH:=@PySem.wpAny_newObj_type
def OI:=@PySem.W.mg_of
def OJ:=@PySem.wpAny_standAt
namespace IR
open PySem
def clsB:Stmt->Nat->Stmt
 | .ClassDef _ _ _ body _ _ _ _ _ _ _,i=>body.getD i (.Pass ⟨0,0,0,0⟩)|s,_=>s
end IR
namespace L2.XN
open PySem
abbrev KW:List Value:=[.type "ValueError",.type "Exception",.type "BaseException",.type "object"]
def excInI(K:W.Frag)(C a:Addr):Bool:=match K.lookup C with
 |some ⟨.type "type",_,.cls cd,sl⟩=>(match cd.mro,sl.toList with
  | .ref C' ::bm,[_,_,_,_,some (.builtin n),_]=>C' ==C&&n=="ValueError.__new__"&& !cd.hasDel&&W.tailIn K KW bm&&W.nsOkIn K cd.ns&&W.nsIn K cd.ns "__init__"==some (some (.ref a))|_,_=>false)
 |_=>false
end L2.XN
namespace L2
open PySem
def bw(s:Stmt):Arguments:=match s with
 | .FunctionDef _ a _ _ _ _ _ _ _ _=>a|_=>{posonlyargs:=[],args:=[],vararg:=none,kwonlyargs:=[],kw_defaults:=[],kwarg:=none,defaults:=[]}
def ai(s:Stmt):List Stmt:=match s with
 | .FunctionDef _ _ b _ _ _ _ _ _ _=>b|_=>[]
def aI(s:Stmt):Scope:=match s with
 | .FunctionDef _ _ _ _ _ _ a _ _ _=>a|_=>{kind:=.function,names:=[],isGenerator:=false,isCoroutine:=false}
end L2
namespace Law
open PySem
def fA(i:Nat):Stmt:=PySem.Challenge.pw_unstruck_k82_report_refused.main.body.getD i (.Pass ⟨0,0,0,0⟩)
abbrev s0:Stmt:=fA 4
abbrev s1:Stmt:=fA 5
abbrev s2:Stmt:=fA 6
abbrev s3:Stmt:=fA 7
abbrev s109:Stmt:=fA 8
abbrev s46:Stmt:=fA 10
abbrev s47:Stmt:=fA 11
abbrev s48:Stmt:=fA 12
abbrev s58:Stmt:=fA 20
abbrev s85:Stmt:=fA 21
abbrev s86:Stmt:=fA 22
abbrev s92:Stmt:=fA 23
abbrev s98:Stmt:=fA 25
abbrev s99:Stmt:=fA 26
abbrev yz:Stmt:=fA 28
abbrev Fc:Stmt:=fA 29
abbrev s112:Stmt:=fA 30
abbrev s113:Stmt:=fA 31
abbrev s114:Stmt:=fA 32
abbrev s141:Stmt:=fA 34
abbrev s142:Stmt:=fA 35
abbrev yy:Stmt:=fA 36
abbrev CB:Stmt:=fA 37
abbrev ux:Stmt:=fA 39
abbrev s215:Stmt:=fA 41
abbrev s216:Stmt:=fA 42
abbrev wg:Stmt:=fA 43
abbrev CA:Stmt:=fA 44
abbrev s219:Stmt:=fA 46
abbrev p8:Stmt:=fA 47
abbrev wf:Stmt:=fA 48
abbrev tE:Stmt:=fA 49
abbrev B9:Stmt:=fA 50
abbrev Fb:Stmt:=fA 51
abbrev tD:Stmt:=fA 52
abbrev lw:Stmt:=fA 53
structure FI(K:W.Frag)(nm:Str)(st:Stmt)(f:Addr)(oc kV doc pm cd ct:Value)(od an:Option Addr)(sl:Array (Option Value)):Prop where
 a:W.nsIn K mainGlobals nm=some (some (.ref f))
 l:K.lookup f=some ⟨oc,od,.func (W.fnOf nm nm (L2.bw st) (L2.ai st) (L2.aI st) .none kV doc pm an cd ct),sl⟩
 c:W.codeIn K cd nm=true
 k:W.keepIn K (.ref f)=true
def FX(K:W.Frag)(h:Str)(l:Stmt):Prop:=∃f e i a b d ct g j c,FI K h l f e i a b d ct g j c
abbrev sI:Stmt:=IR.clsB (fA 17) 0
structure IK(K:W.Frag)(X D c1 c2 C c3:Addr)(b1 b2 b3 b4:Bool):Prop where
 ga:W.findIn K (.ref X) "__getattribute__"=some (some (.builtin "BaseException.__getattribute__"))
 gn:W.findIn K (.ref X) "__getattr__"=some none
 ca:W.findIn K (.ref X) "__class__"=some (some (.builtin "object.__class__"))
 ob:W.mroIn K X (.type "object")=some true
 be:W.mroIn K X (.type "BaseException")=some true
 sD:W.subIn K (.ref X) (.ref D)=some true
 sV:W.subIn K (.ref X) (.type "ValueError")=some true
 s1:W.subIn K (.ref X) (.ref c1)=some b1
 s2:W.subIn K (.ref X) (.ref c2)=some b2
 s3:W.subIn K (.ref X) (.ref C)=some b3
 s4:W.subIn K (.ref X) (.ref c3)=some b4
structure CX(K:W.Frag)(g0 g1 g2 g3 g4 gi gT:Addr)(cd0 cd1 cd2 cd3 cd4:ClassData)(iq ix iz:Option Addr)(ir is_:Array (Option Value))(it iu iw iy im iv:Value)(in_:Nat):Prop where
 y0:W.nsIn K mainGlobals "NoStair"=some (some (.ref g0))
 yc0:W.clsIn K g0=some cd0
 yt0:W.typeIn K (.ref g0)=some (.type "type")
 y1:W.nsIn K mainGlobals "BoardError"=some (some (.ref g1))
 yc1:W.clsIn K g1=some cd1
 yt1:W.typeIn K (.ref g1)=some (.type "type")
 y2:W.nsIn K mainGlobals "NoBoard"=some (some (.ref g2))
 yc2:W.clsIn K g2=some cd2
 yt2:W.typeIn K (.ref g2)=some (.type "type")
 y3:W.nsIn K mainGlobals "NoPlacing"=some (some (.ref g3))
 yc3:W.clsIn K g3=some cd3
 yt3:W.typeIn K (.ref g3)=some (.type "type")
 y4:W.nsIn K mainGlobals "TooGreat"=some (some (.ref g4))
 yc4:W.clsIn K g4=some cd4
 yt4:W.typeIn K (.ref g4)=some (.type "type")
 j1:W.findIn K (.ref g0) "__init__"=some (some (.ref gi))
 i1:K.lookup gi=some ⟨.type "function",iq,.func (W.fnOf "__init__" "NoStair.__init__" (L2.bw sI) (L2.ai sI) (L2.aI sI) (.ref gT) it iu iw ix iy im),ir⟩
 i2:W.codeIn K iy "NoStair.__init__"=true
 i3:K.lookup gT=some ⟨iv,iz,.seq #[.none] in_,is_⟩
 h0:W.keepIn K (.ref g0)=true
 h1:W.findIn K (.ref g0) "__setattr__"=some (some (.builtin "object.__setattr__"))
 h2:W.hasDictIn K g0=true
 h3:W.takerIn K g0 "rows"=some none
 h4:W.findIn K (.ref g0) "rows"=some none
 e0:W.findIn K (.ref g0) "__getattribute__"=some (some (.builtin "BaseException.__getattribute__"))
 e1:W.findIn K (.ref g0) "__getattr__"=some none
 e2:W.findIn K (.ref g0) "__class__"=some (some (.builtin "object.__class__"))
 e3:W.specialIn K (.builtin "object.__class__") "__get__"=some (some (.builtin "getset_descriptor.__get__"))
 e4:W.takesIn K (.builtin "object.__class__")=some true
 e5:W.mroIn K g0 (.type "object")=some true
 e6:W.mroIn K g0 (.type "BaseException")=some true
 b0:W.subIn K (.ref g0) (.ref g0)=some true
 b1:W.subIn K (.ref g0) (.ref g1)=some true
 b2:W.subIn K (.ref g1) (.type "BaseException")=some true
 b3:W.subIn K (.ref g0) (.type "ValueError")=some true
 b4:W.subIn K (.ref g0) (.ref g2)=some false
 b5:W.subIn K (.ref g0) (.ref g3)=some false
 b6:W.subIn K (.ref g0) (.ref g4)=some false
 b7:W.subIn K (.ref g0) (.type "BaseException")=some true
 n0:g0≠g2
 n1:g0≠g3
 n2:g0≠g4
 j0:L2.XN.excInI K g0 gi=true
 R0:IK K g2 g1 g2 g3 g0 g4 true false false false
 R1:IK K g3 g1 g2 g3 g0 g4 false true false false
 R2:IK K g0 g1 g2 g3 g0 g4 false false true false
 R3:IK K g4 g1 g2 g3 g0 g4 false false false true
 Q0:W.excIn K g2 [.type "ValueError",.type "Exception",.type "BaseException",.type "object"] "ValueError.__new__"=true
 P0:W.keepIn K (.ref g2)=true
 Q1:W.excIn K g3 [.type "ValueError",.type "Exception",.type "BaseException",.type "object"] "ValueError.__new__"=true
 P1:W.keepIn K (.ref g3)=true
 Q2:W.excIn K g4 [.type "ValueError",.type "Exception",.type "BaseException",.type "object"] "ValueError.__new__"=true
 P2:W.keepIn K (.ref g4)=true
 n3:g2≠g3
 n4:g2≠g4
 n5:g3≠g4
structure Ke(K:W.Frag):Prop where
 a0:FX K "is_side" s0
 a1:FX K "is_line" s1
 a2:FX K "is_board" s2
 a3:FX K "cells_of" s3
 a4:FX K "columns_in" s109
 a5:FX K "bits_of" s46
 a6:FX K "with_line" s47
 a7:FX K "row_of" s48
 a8:FX K "number_at" s58
 a9:FX K "falling" s85
 a10:FX K "ways" s86
 a11:FX K "signed" s92
 a12:FX K "hits_at" s98
 a13:FX K "hits_of" s99
 a14:FX K "takes_column" yz
 a15:FX K "holders_of" Fc
 a16:FX K "others" s112
 a17:FX K "reached" s113
 a18:FX K "most_of" s114
 a19:FX K "has_all_of" s141
 a20:FX K "crossing_rows" s142
 a21:FX K "steps_of" yy
 a22:FX K "factors_of" CB
 a23:FX K "read_board" ux
 a24:FX K "line_of" s215
 a25:FX K "words_of_most" s216
 a26:FX K "words_of_factors" wg
 a27:FX K "report" CA
 a28:FX K "_law_draws" s219
 a29:FX K "_law_next" p8
 a30:FX K "_law_order" wf
 a31:FX K "_law_stair" tE
 a32:FX K "_law_board" B9
 a33:FX K "_law_refused" Fb
 a34:FX K "_law_spoilt" tD
 a35:FX K "law" lw
 z0:W.nsIn K mainGlobals "len"=some none
 z1:W.nsIn K mainGlobals "int"=some none
 z2:W.nsIn K mainGlobals "list"=some none
 z3:W.nsIn K mainGlobals "tuple"=some none
 z4:W.nsIn K mainGlobals "all"=some none
 z5:W.nsIn K mainGlobals "min"=some none
 z6:W.nsIn K mainGlobals "max"=some none
 z7:W.nsIn K mainGlobals "isinstance"=some none
 z8:W.nsIn K mainGlobals "str"=some none
 z9:W.nsIn K mainGlobals "range"=some none
 z10:W.nsIn K mainGlobals "enumerate"=some none
 z11:W.nsIn K mainGlobals "sorted"=some none
 z12:W.nsIn K mainGlobals "sum"=some none
 z13:W.nsIn K mainGlobals "dict"=some none
 z14:W.nsIn K mainGlobals "ValueError"=some none
 v0:∃tk,W.nsIn K mainGlobals "CELL"=some (some (.str "x" tk))
 v1:∃tk,W.nsIn K mainGlobals "HOLE"=some (some (.str "." tk))
 v2:∃tk,W.nsIn K mainGlobals "GREATEST_SIDE"=some (some (.int 8 tk))
 cx:∃g0 g1 g2 g3 g4 gi gT cd0 cd1 cd2 cd3 cd4 iq ix iz ir is_ it iu iw iy im iv in_,CX K g0 g1 g2 g3 g4 gi gT cd0 cd1 cd2 cd3 cd4 iq ix iz ir is_ it iu iw iy im iv in_
end Law
section
open PySem PySem.W PyProof.Rows
def LH.vw:Program:={PySem.Challenge.pw_unstruck_k82_report_refused with main:={PySem.Challenge.pw_unstruck_k82_report_refused.main with body:=((PySem.Challenge.pw_unstruck_k82_report_refused.main.body.drop 1).take 8)++((PySem.Challenge.pw_unstruck_k82_report_refused.main.body.drop 10).take 3)++((PySem.Challenge.pw_unstruck_k82_report_refused.main.body.drop 14).take 5)++((PySem.Challenge.pw_unstruck_k82_report_refused.main.body.drop 20).take 4)++((PySem.Challenge.pw_unstruck_k82_report_refused.main.body.drop 25).take 2)++((PySem.Challenge.pw_unstruck_k82_report_refused.main.body.drop 28).take 5)++((PySem.Challenge.pw_unstruck_k82_report_refused.main.body.drop 34).take 4)++((PySem.Challenge.pw_unstruck_k82_report_refused.main.body.drop 39).take 1)++((PySem.Challenge.pw_unstruck_k82_report_refused.main.body.drop 41).take 4)++((PySem.Challenge.pw_unstruck_k82_report_refused.main.body.drop 46).take 8)}}
set_option tactic.hygienic false
theorem LH.two{A B C:Type}{o:Option A}{f:A->B}{g:A->C}{a:B}{b:C}(h:o.map f=some a)(k:o.map g=some b):o.map (λs=>(f s,g s))=some (a,b):=by
 cases o with
 |none=>cases h|some x=>cases h;cases k;rfl
abbrev LH.xt(s:Shared):Bool:=xlAt LH.vw [] s&&recOk [] s
set_option tactic.hygienic true
theorem LH.h1(w:World):(openEnds treeTable PySem.Challenge.pw_unstruck_k82_report_refused w 9999).map (fun s=>openSeen LH.vw ["NoStair"] (importedModules PySem.Challenge.pw_unstruck_k82_report_refused.main.body) LH.xt true s)=some (openGood LH.vw ["NoStair"]):=by kernel_rfl
set_option maxRecDepth 100000 in
set_option maxHeartbeats 0 in
theorem LH.ws:OpenLaw.wellSaid PySem.Challenge.rw_unstruck_k82_report_refused=true:=(congrFun Fast.te9446332074065402090 _).trans (by kernel_rfl)
local macro_rules | `(tactic| o_head $H) => do
 let hw := Lean.mkIdent `hw
 let hc := Lean.mkIdent `hc
 `(tactic| (refine holds_open (q := LH.vw) (loose := ["NoStair"]) (Xt := LH.xt) (XP := XL LH.vw []) (Yf := Hook.obs $H) (Ya := Hook.val $H) (YP := Hook.says $H) (N := 9999) (fun w => LH.two (LH.h1 w) (by kernel_rfl)) (Hook.of $H) (Hook.keeps $H) (fun s e => xl_of s (Bool.and_eq_true_iff.mp e).1) XL.keeps rfl rfl rfl (fun s e => recFacts_of (Bool.and_eq_true_iff.mp e).2) rfl (by first | assumption | decide +kernel) (by decide +kernel) ⟨rfl, rfl, rfl, rfl, rfl, by decide +kernel⟩ ?$hw ?$hc))
set_option maxRecDepth 100000 in
set_option maxHeartbeats 0 in
theorem LH.head(h:∀(K:Params->Frag) (YP:World->Heap->Prop) (d:DefRec),d.name="law"->d.params.defaults=[]->(∀(w:World) (h:Heap),YP w h->(K w.params).In h)->(∀w:World,Law.Ke (K w.params))->WalkO LH.vw ["NoStair"] (XL LH.vw []) YP PySem.Challenge.rw_unstruck_k82_report_refused.row.toRowW d [] fun f vs=>PySem.call f vs):PySem.Challenge.rw_unstruck_k82_report_refused.Holds:=by
 w_on;refine holds_law LH.ws fun said=> ?_;k_head;(case hw=>w_witness2)
 k_fill
 refine h _ _ _ rfl rfl (fun w h Y=>W.kIn_of Y) fun w=> ?_;exact⟨⟨_,_,_,_,_,_,_,_,_,_,by k_is,by k_is,by k_is,by k_is⟩,⟨_,_,_,_,_,_,_,_,_,_,by k_is,by k_is,by k_is,by k_is⟩,⟨_,_,_,_,_,_,_,_,_,_,by k_is,by k_is,by k_is,by k_is⟩,⟨_,_,_,_,_,_,_,_,_,_,by k_is,by k_is,by k_is,by k_is⟩,⟨_,_,_,_,_,_,_,_,_,_,by k_is,by k_is,by k_is,by k_is⟩,⟨_,_,_,_,_,_,_,_,_,_,by k_is,by k_is,by k_is,by k_is⟩,⟨_,_,_,_,_,_,_,_,_,_,by k_is,by k_is,by k_is,by k_is⟩,⟨_,_,_,_,_,_,_,_,_,_,by k_is,by k_is,by k_is,by k_is⟩,⟨_,_,_,_,_,_,_,_,_,_,by k_is,by k_is,by k_is,by k_is⟩,⟨_,_,_,_,_,_,_,_,_,_,by k_is,by k_is,by k_is,by k_is⟩,⟨_,_,_,_,_,_,_,_,_,_,by k_is,by k_is,by k_is,by k_is⟩,⟨_,_,_,_,_,_,_,_,_,_,by k_is,by k_is,by k_is,by k_is⟩,⟨_,_,_,_,_,_,_,_,_,_,by k_is,by k_is,by k_is,by k_is⟩,⟨_,_,_,_,_,_,_,_,_,_,by k_is,by k_is,by k_is,by k_is⟩,⟨_,_,_,_,_,_,_,_,_,_,by k_is,by k_is,by k_is,by k_is⟩,⟨_,_,_,_,_,_,_,_,_,_,by k_is,by k_is,by k_is,by k_is⟩,⟨_,_,_,_,_,_,_,_,_,_,by k_is,by k_is,by k_is,by k_is⟩,⟨_,_,_,_,_,_,_,_,_,_,by k_is,by k_is,by k_is,by k_is⟩,⟨_,_,_,_,_,_,_,_,_,_,by k_is,by k_is,by k_is,by k_is⟩,⟨_,_,_,_,_,_,_,_,_,_,by k_is,by k_is,by k_is,by k_is⟩,⟨_,_,_,_,_,_,_,_,_,_,by k_is,by k_is,by k_is,by k_is⟩,⟨_,_,_,_,_,_,_,_,_,_,by k_is,by k_is,by k_is,by k_is⟩,⟨_,_,_,_,_,_,_,_,_,_,by k_is,by k_is,by k_is,by k_is⟩,⟨_,_,_,_,_,_,_,_,_,_,by k_is,by k_is,by k_is,by k_is⟩,⟨_,_,_,_,_,_,_,_,_,_,by k_is,by k_is,by k_is,by k_is⟩,⟨_,_,_,_,_,_,_,_,_,_,by k_is,by k_is,by k_is,by k_is⟩,⟨_,_,_,_,_,_,_,_,_,_,by k_is,by k_is,by k_is,by k_is⟩,⟨_,_,_,_,_,_,_,_,_,_,by k_is,by k_is,by k_is,by k_is⟩,⟨_,_,_,_,_,_,_,_,_,_,by k_is,by k_is,by k_is,by k_is⟩,⟨_,_,_,_,_,_,_,_,_,_,by k_is,by k_is,by k_is,by k_is⟩,⟨_,_,_,_,_,_,_,_,_,_,by k_is,by k_is,by k_is,by k_is⟩,⟨_,_,_,_,_,_,_,_,_,_,by k_is,by k_is,by k_is,by k_is⟩,⟨_,_,_,_,_,_,_,_,_,_,by k_is,by k_is,by k_is,by k_is⟩,⟨_,_,_,_,_,_,_,_,_,_,by k_is,by k_is,by k_is,by k_is⟩,⟨_,_,_,_,_,_,_,_,_,_,by k_is,by k_is,by k_is,by k_is⟩,⟨_,_,_,_,_,_,_,_,_,_,by k_is,by k_is,by k_is,by k_is⟩,by k_is,by k_is,by k_is,by k_is,by k_is,by k_is,by k_is,by k_is,by k_is,by k_is,by k_is,by k_is,by k_is,by k_is,by k_is,⟨_,by k_is⟩,⟨_,by k_is⟩,⟨_,by k_is⟩,⟨_,_,_,_,_,_,_,_,_,_,_,_,_,_,_,_,_,_,_,_,_,_,_,_,by k_is,by k_is,by k_is,by k_is,by k_is,by k_is,by k_is,by k_is,by k_is,by k_is,by k_is,by k_is,by k_is,by k_is,by k_is,by k_is,by k_is,by k_is,by k_is,by k_is,by k_is,by k_is,by k_is,by k_is,by k_is,by k_is,by k_is,by k_is,by k_is,by k_is,by k_is,by k_is,by k_is,by k_is,by k_is,by k_is,by k_is,by k_is,by k_is,by decide,by decide,by decide,by kernel_rfl,⟨by k_is,by k_is,by k_is,by k_is,by k_is,by k_is,by k_is,by k_is,by k_is,by k_is,by k_is⟩,⟨by k_is,by k_is,by k_is,by k_is,by k_is,by k_is,by k_is,by k_is,by k_is,by k_is,by k_is⟩,⟨by k_is,by k_is,by k_is,by k_is,by k_is,by k_is,by k_is,by k_is,by k_is,by k_is,by k_is⟩,⟨by k_is,by k_is,by k_is,by k_is,by k_is,by k_is,by k_is,by k_is,by k_is,by k_is,by k_is⟩,by first|k_exc|kernel_rfl,by k_is,by first|k_exc|kernel_rfl,by k_is,by first|k_exc|kernel_rfl,by k_is,by decide,by decide,by decide⟩⟩
end
namespace L2
open PySem PySem.Spec PyProof.Rows
abbrev ah:=Sum Int Str
def mh:ah->Value->Bool
 | .inl k,v=>Value.isInt k v| .inr x,v=>Value.isStrOf x v
def keyH(w:World):ah->Int
 | .inl k=>hashInt k| .inr x=>hashStr w x
set_option tactic.hygienic false
theorem bG:∀{k:ah}{v:Value},mh k v=true->(∃i t,k=Sum.inl i/\v=Value.int i t)\/(∃x t,k=Sum.inr x/\v=Value.str x t)
 | .inl i,v,h=>by obtain⟨t,e⟩:=Value.isInt_shape h;exact .inl ⟨i,t,rfl,e⟩
 | .inr x,v,h=>by obtain⟨t,e⟩:=Value.isStrOf_shape h;exact .inr ⟨x,t,rfl,e⟩
theorem xG(i:Int)(t:Tok):mh (.inl i) (.int i t)=true:=by simp[mh,Value.isInt]
theorem xF(x:Str)(t:Tok):mh (.inr x) (.str x t)=true:=by simp[mh,Value.isStrOf]
theorem GY(a b:Int):decide ((Sum.inl a:ah)=Sum.inl b)=(a==b):=by
 by_cases e:a=b;subst e;simp
 ·have h:¬(Sum.inl a:ah)=Sum.inl b:=λq=>e (Sum.inl.inj q)
  rw[Ld h];exact(beq_eq_false_iff_ne.mpr e).symm
theorem GV(a b:Str):decide ((Sum.inr a:ah)=Sum.inr b)=decide (a=b):=by
 by_cases e:a=b;simp
 ·have h:¬(Sum.inr a:ah)=Sum.inr b:=λq=>e (Sum.inr.inj q)
  rw[Ld h,Ld e]
theorem GX(a:Int)(b:Str):decide ((Sum.inl a:ah)=Sum.inr b)=false:=Ld (λq=>nomatch q)
theorem GW(a:Str)(b:Int):decide ((Sum.inr a:ah)=Sum.inl b)=false:=Ld (λq=>nomatch q)
def ac(c:Program)(w:World):PySem.KeyKind c w ah where
 is:=mh
 hash:=keyH w
 inj:=λv a b ha hb=>by
  rcases bG ha with⟨i,t,rfl,rfl⟩|⟨x,t,rfl,rfl⟩
  ·rcases bG hb with⟨j,u,rfl,e⟩|⟨y,u,rfl,e⟩
   ·injection e with e1 _;rw[e1]
   ·exact nomatch e
  ·rcases bG hb with⟨j,u,rfl,e⟩|⟨y,u,rfl,e⟩
   ·exact nomatch e
   ·injection e with e1 _;rw[e1]
 byValue:=λk v h=>by
  rcases bG h with⟨i,t,rfl,rfl⟩|⟨x,t,rfl,rfl⟩<;>rfl
 pyHash:=λhv h=>by
  rcases bG hv with⟨i,t,rfl,rfl⟩|⟨x,t,rfl,rfl⟩
  ·exact wpAny_pyHash_int h
  ·exact wpAny_pyHash_str h
 eqBool:=λhu hv h=>by
  rcases bG hu with⟨i,t,rfl,rfl⟩|⟨x,t,rfl,rfl⟩
  ·rcases bG hv with⟨j,u,rfl,rfl⟩|⟨y,u,rfl,rfl⟩
   ·rw[GY]at h;exact wpAny_eqBool_int h
   ·rw[GX]at h;exact SeqAt.EqAt.int_str i t y u _ _ _ _ h
  ·rcases bG hv with⟨j,u,rfl,rfl⟩|⟨y,u,rfl,rfl⟩
   ·rw[GW]at h;exact SeqAt.EqAt.str_int x t j u _ _ _ _ h
   ·rw[GV]at h;exact wpAny_eqBool_str h
 «strs»:=λk x t v h=>by
  rcases bG h with⟨i,u,rfl,e⟩|⟨y,u,rfl,e⟩
  ·exact nomatch e
  ·injection e with e1 _
   subst e1;cases v<;>rfl
theorem qe(a:Program)(w:World)(i:Int)(t:Tok):(ac a w).is (.inl i) (.int i t)=true:=xG i t
theorem qZ(a:Program)(w:World)(x:Str)(t:Tok):(ac a w).is (.inr x) (.str x t)=true:=xF x t
inductive V where
 | non|bl (b:Bool)|int (i:Int)|str (x:Str)|byt (b:Array UInt8)|flt (b:UInt64)|ref (a:Addr)|ty (n:String)
 deriving DecidableEq
def RelV:V->Value->Prop
 | .non,u=>u=Value.none| .bl b,u=>u=Value.bool b| .int i,u=>∃t,u=Value.int i t| .str x,u=>∃t,u=Value.str x t| .byt b,u=>∃t,u=Value.bytes b t| .flt b,u=>∃t,u=Value.float b t| .ref a,u=>u=Value.ref a| .ty n,u=>u=Value.type n
abbrev aN:List V->List Value->Prop:=Paired RelV
theorem aN.length{us:List Value}(r:aN a us):a.length=us.length:=Paired.length r
theorem aN.get:∀{a:List V}{us:List Value}{i:Nat}{x:V},aN a us->a[i]? =some x->∃u,us[i]? =some u/\RelV x u
 |_,_,_,_,.nil,e=>by simp at e|_,_,0,_,.cons r _,e=>by simp at e;subst e;exact⟨_,rfl,r⟩|_,_,i+1,x,.cons _ t,e=>by obtain⟨u,c,b⟩:=aN.get t (by simpa using e);exact⟨u,by simpa using c,b⟩
theorem aN.set{x:V}{u:Value}(r:RelV x u):∀{a:List V}{us:List Value}(i:Nat),aN a us->aN (a.set i x) (us.set i u)
 |_,_,_,.nil=>.nil|_,_,0,.cons _ t=>.cons r t|_,_,i+1,.cons q t=>.cons q (aN.set r i t)
theorem aN.append{us:List Value}(h:aN a us)(k:aN b c):aN (a++b) (us++c):=by
 induction h with
 |nil=>exact k|cons r t d=>exact .cons r d
theorem aN.take:∀{a:List V}{us:List Value}(n:Nat),aN a us->aN (a.take n) (us.take n)
 |_,_,0,_=>.nil|_,_,_+1,.nil=>.nil|_,_,n+1,.cons r t=>.cons r (aN.take n t)
theorem aN.drop:∀{a:List V}{us:List Value}(n:Nat),aN a us->aN (a.drop n) (us.drop n)
 |_,_,0,r=>r|_,_,_+1,.nil=>.nil|_,_,n+1,.cons _ t=>aN.drop n t
def iE:Option V->Option Value->Prop
 |some v,some u=>RelV v u|none,none=>True|_,_=>False
def KV{a:Type}:List (a×V)->List (a×Value)->Prop:=Paired λ(p:a×V)(q:a×Value)=>p.1=q.1/\RelV p.2 q.2
def kV:ah->V
 | .inl i=>.int i| .inr x=>.str x
inductive HO where
 | lst (xs:List V)
 | tup (xs:List V)
 | dK (kvs:List (ah×V))|dT (kvs:List (List ah×V))
 | set (S:Int->Bool) (n:Nat)
 | ins (C dx:Addr) (fs:List (Str×V))
 | own (x:Addr)
 | xd (fs:List (Str×V))
 | met (f x:Addr)
 | rng (lo hi:Int)
 | frz (o:Obj) (u:HO)
 | tbl (ps:Array Value)
 | ext (φ:Heap->Prop)
abbrev Hp:=Addr->Option HO
def upd(H:Hp)(a:Addr)(o:HO):Hp:=λb=>if b=a then some o else H b
theorem aD{o:HO}:upd H a o a=some o:=by unfold upd;rw[K5 rfl]
theorem aA{o:HO}(h:b≠a):upd H a o b=H b:=by unfold upd;rw[LC h]
theorem Bk{o:HO}:upd (upd H a o) a u=upd H a u:=by funext b;unfold upd;split<;>rfl
theorem Jb{H:Hp}{o:HO}(h:H a=some o)(c :H b=some u)(d:o≠u):a≠b:=by intro e;subst e;rw[h]at c;exact d (LR c)
theorem aG{H:Hp}{o:HO}(h:H a=some o)(c :H b=none):a≠b:=by intro e;subst e;rw[h]at c;cases c
def jk(h:Heap)(a:Addr)(b:Array Value):Prop:=∃o,h.get? a=some o/\o.cls=.type "tuple"/\∃n,o.data=.seq b n/\o.dict=none
theorem jk.tup{h:Heap}{a:Addr}{b:Array Value}(x:jk h a b):IsTup h a b:=let⟨o,e,c,n,d,_⟩:=x;⟨o,e,c,n,d⟩
theorem jk.new(h:Heap)(a:Array Value):jk (h.push {cls:=.type "tuple",data:=.seq a}) h.objs.size a:=⟨_,LO _ rfl,rfl,_,rfl,rfl⟩
section
variable(P:Program)(w:World)
def au(H:Hp)(h:Heap)(a:Addr):HO->Prop
 | .lst d=>d.length<=sizeLine/\∃(b:List Value)(n:Nat),aN d b/\h.get? a=some {cls:=.type "list",data:=.seq b.toArray n}| .tup d=>d.length<=sizeLine/\∃b:List Value,aN d b/\jk h a b.toArray| .dK c=>c.length<=sizeLine/\(a==sysModules)=false/\∃r,KV c r/\h.DictOf (ac P w) a r| .dT c=>c.length<=sizeLine/\(a==sysModules)=false/\∃d:List (List ah×Addr×Value),Paired (λ(p:List ah×V) (q:List ah×Addr×Value)=>p.1=q.1/\H q.2.1=some (.tup (p.1.map kV))/\RelV p.2 q.2.2) c d /\ ∃o m D,h.get? a=some o/\o.ExactDict/\o.data=.dict m D/\m.toList=d.map (entryOfKey (tupleKind (ac P w)))/\(d.map (·.1)).Nodup| .set S n=>h.SetOf (intKind P w) a S n| .ins C i g=>H i=some (.own a)/\g.length<=1000/\i≠a/\h.get? a=some (W.instObj C i) /\ ∃e,h.Ns1 i e/\(∀f,iE (g.lookup f) (e f))/\PySem.Within e (g.map (·.1))| .own _=>∃o,h.get? a=some o| .xd g=>∃e,h.Ns1 a e/\∀f,iE (g.lookup f) (e f)| .rng z A=>∃t u v,h.get? a=some {cls:=.type "range",data:=.fields #[.int z t,.int A u,.int 1 v]}| .frz o u=>h.get? a=some o/\au H h a u| .tbl y=>h.get? a=some {cls:=.none,data:=.fields y}| .met f x=>h.get? a=some (W.methodObj (.ref f) (.ref x))| .ext j=>j h/\(∃o,h.get? a=some o)/\∀s l:Heap,j s->(∀o,s.get? a=some o->l.get? a=some o)->j l
def dm(H:Hp)(h:Heap):Prop:=∀a o,H a=some o->au P w H h a o
end
section
variable{P:Program}{w:World}{H H' :Hp}{h h' :Heap}{a:Addr}{o:HO}
theorem au.lt(x:au P w H h a o):a<h.objs.size:=by
 cases o with
 |lst d=>obtain⟨_,_,_,_,e⟩:=x;exact LG e
 |tup d=>obtain⟨_,_,_,p⟩:=x;exact p.tup.lt
 |dK b=>obtain⟨_,_,_,_,o,_,_,e,_⟩:=x;exact LG e
 |dT b=>obtain⟨_,_,_,_,o,_,_,e,_⟩:=x;exact LG e
 |set S n=>obtain⟨o,_,_,_,e,_⟩:=x;exact LG e
 |ins C m c=>obtain⟨_,_,_,e,_⟩:=x;exact LG e
 |own y=>obtain⟨_,e⟩:=x;exact LG e
 |xd c=>obtain⟨_,⟨_,_,_,e,_⟩,_⟩:=x;exact LG e
 |rng l q=>obtain⟨_,_,_,e⟩:=x;exact LG e
 |frz i u=>obtain⟨e,_⟩:=x;exact LG e
 |tbl g=>exact LG (show h.get? a=some _ from x)|met f y=>exact LG (show h.get? a=some _ from x)|ext j=>obtain⟨_,⟨_,e⟩,_⟩:=x;exact LG e
theorem Paired.mapP{g e:Type}{F G:g->e->Prop}{c:List g}{d:List e}(h:Paired F c d)(f:∀a b,F a b->G a b):Paired G c d:=by
 induction h with
 |nil=>exact .nil|cons r t i=>exact .cons (f _ _ r) i
theorem au.stay(x:au P w H h a o)(k:∀b u,(b=a\/H b=some (.own a))->h.get? b=some u->h'.get? b=some u)
  (O:∀b,H b=some (.own a)->H' b=some (.own a)) (N:∀b m,H b=some (.tup m)->H' b=some (.tup m)):au P w H' h' a o:=by
 induction o with
 |lst m=>obtain⟨z,l,n,r,e⟩:=x;exact⟨z,l,n,r,k _ _ (.inl rfl) e⟩
 |tup m=>obtain⟨z,l,r,g,e,c⟩:=x;exact⟨z,l,r,g,k _ _ (.inl rfl) e,c⟩
 |dK A=>obtain⟨z,y,M,r,g,i,j,e,c⟩:=x;exact⟨z,y,M,r,g,i,j,k _ _ (.inl rfl) e,c⟩
 |dT A =>obtain⟨z,y,m,r,g,i,j,e,c⟩:=x;exact⟨z,y,m,Paired.mapP r λp q z=>⟨z.1,N _ _ z.2.1,z.2.2⟩,g,i,j,k _ _ (.inl rfl) e,c⟩
 |set S n=>obtain⟨g,i,j,t,e,c⟩:=x;exact⟨g,i,j,t,k _ _ (.inl rfl) e,c⟩
 |ins C U K =>obtain⟨d,z,J,e,s,⟨D,i,j,L,c⟩,r⟩:=x;exact⟨O _ d,z,J,k _ _ (.inl rfl) e,s,⟨D,i,j,k _ _ (.inr d) L,c⟩,r⟩
 |own y=>obtain⟨g,e⟩:=x;exact⟨g,k _ _ (.inl rfl) e⟩
 |xd K=>obtain⟨s,⟨D,i,j,e,c⟩,r⟩:=x;exact⟨s,⟨D,i,j,k _ _ (.inl rfl) e,c⟩,r⟩
 |rng T X=>obtain⟨t,u,v,e⟩:=x;exact⟨t,u,v,k _ _ (.inl rfl) e⟩
 |frz g u Q=>obtain⟨e,q⟩:=x;exact⟨k _ _ (.inl rfl) e,Q q⟩
 |tbl E =>have e:=x;exact k a _ (.inl rfl) e
 |met f y =>have e:=x;exact k a _ (.inl rfl) e
 |ext R=>obtain⟨p,⟨o,e⟩,I⟩:=x;exact⟨I _ _ p λo q=>k _ _ (.inl rfl) q,⟨o,k _ _ (.inl rfl) e⟩,I⟩
theorem dm.lt(x:dm P w H h)(e:H a=some o):a<h.objs.size:=(x a o e).lt
theorem dm.fresh(x:dm P w H h)(e:h.objs.size<=a):H a=none:=by
 cases q:H a with
 |none=>rfl|some u=>exact absurd (La (x.lt q) e) (MQ _)
theorem dm.kept(x:dm P w H h)(k:∀b u,h.get? b=some u->h'.get? b=some u):dm P w H h' :=λa o e =>
 (x a o e).stay (λb u _ q=>k b u q) (λ_ q=>q) λ_ _ q=>q
theorem dm.laid(x:dm P w H h)(k:∀b u,h.get? b=some u->h'.get? b=some u)(i:h.objs.size<=a)(d:au P w (upd H a o) h' a o):dm P w (upd H a o) h' :=λb u e=>by
 have f:=x.fresh i
 by_cases g:b=a;subst g;rw[aD]at e;cases e;exact d
 ·rw[aA g]at e
  exact(x b u e).stay (λc v _ q=>k c v q) (λc q=>by rw[aA (aG q f)];exact q) λc xs q=>by rw[aA (aG q f)];exact q
end
def Rd(H:Hp)(a:Addr)(u:HO):Prop:=H a=some u\/∃o,H a=some (.frz o u)
theorem Rd.ok{P:Program}(r:Rd H a u)(x:dm P w H h):au P w H h a u:=by
 rcases r with r|⟨o,r⟩
 ·exact x a u r
 ·obtain⟨_,q⟩:=x a _ r
  exact q
def IL:Option HO->Prop
 |some (.lst _)=>True|some (.dK _)=>True|some (.dT _)=>True|some (.set _ _)=>True|some (.ins _ _ _)=>True|some (.ext _)=>True|_=>False
section
variable{P:Program}{w:World}{H:Hp}{h h' :Heap}{x e:Addr}{o' :HO}
theorem dm.write(A:dm P w H h)(i:IL (H x))(o:e=x\/H e=some (.own x))(k:∀b u,b≠e->h.get? b=some u->h'.get? b=some u)(n:∃u,h'.get? e=some u)
  (m:au P w (upd H x o') h' x o'):dm P w (upd H x o') h' :=λb u q=>by
 have d:∀c y,H c=some (.own y)->c≠x:=λc y r z=>by subst z;rw[r]at i;exact i
 have f:∀c j,H c=some (.tup j)->c≠x:=λc j r z=>by subst z;rw[r]at i;exact i
 by_cases l:b=x;subst l;rw[aD]at q;cases q;exact m
 ·rw[aA l]at q
  by_cases a:b=e
  ·have p :H b=some (.own x):=by
    rcases o with z|z
    ·exact absurd (a.trans z) l
    ·rw[a];exact z
   rw[q]at p;cases p;obtain⟨v,s⟩:=n;exact⟨v,by rw[a];exact s⟩
  ·refine(A b u q).stay (λc v g r=>k c v ?_ r) (λc r=>by rw[aA (d c b r)];exact r) λc j r=>by rw[aA (f c j r)];exact r
   rcases g with rfl|g
   ·exact a
   ·rintro rfl
    rcases o with z|z
    ·exact d c b g z
    ·rw[g]at z;cases z;exact l rfl
end
structure Un(fs ex:List Addr)(H H' :Hp)(h h' :Heap):Prop where
 keep:∀b o,h.get? b=some o->H b=none->b∉fs->b∉ex->h'.get? b=some o
 slot:∀b o,h.get? b=some o->H b=none->b∈fs->b∉ex->∃sl,h'.get? b=some {o with slots:=sl}
 free:∀b o,h.get? b=some o->H b=none->b∉ex->H' b=none
 there:∀b o,h.get? b=some o->b∉ex->∃o',h'.get? b=some o'
 tups:∀b xs,H b=some (.tup xs)->H' b=some (.tup xs)
 frzs:∀b o u,H b=some (.frz o u)->H' b=some (.frz o u)
 tbls:∀b ps,H b=some (.tbl ps)->∃more,H' b=some (.tbl (ps++more))
section
variable{fs fs' ex ex' :List Addr}{H H1 H2:Hp}{h h1 h2 h' :Heap}{a x e:Addr}{o:HO}
theorem Un.any(u:Un fs ex H H1 h h1)(q:h.get? b=some c)(n:H b=none)(d:b∉ex):∃g,h1.get? b=some {c with slots:=g}:=by by_cases f:b∈fs;exact u.slot b c q n f d;exact⟨c.slots,u.keep b c q n f d⟩
theorem Un.kept(k:∀b u,h.get? b=some u->h'.get? b=some u):Un fs ex H H h h' := ⟨λb ob q _ _ _=>k b ob q,λb ob q _ _ _=>⟨ob.slots,k b ob q⟩,λ_ _ _ n _=>n,λb ob q _=>⟨ob,k b ob q⟩,λ_ _ q=>q,λ_ _ _ q=>q,λ_ ps q=>⟨#[],by rw[q];simp⟩⟩
theorem Un.refl:Un fs ex H H h h:=Un.kept λ_ _ q=>q
theorem Un.laid(k:∀b u,h.get? b=some u->h'.get? b=some u)(d:h.objs.size<=a)(c:H a=none):Un fs ex H (upd H a o) h h' where
 keep:=λb u q _ _ _=>k b u q
 slot:=λb u q _ _ _=>⟨u.slots,k b u q⟩
 free:=λb u q n _=>by rw[aA (LV (La (LG q) d))];exact n
 there:=λb u q _=>⟨u,k b u q⟩
 tups:=λb xs q=>by rw[aA (aG q c)];exact q
 frzs:=λb u xs q=>by rw[aA (aG q c)];exact q
 tbls:=λb ps q=>⟨#[],by rw[aA (aG q c),q];simp⟩
theorem Un.write(d:IL (H x))(l:e=x\/H e=some (.own x))(k:∀b u,b≠e->h.get? b=some u->h'.get? b=some u)(g:∃u,h'.get? e=some u):Un fs ex H (upd H x o) h h' :=by
 have i:∀b,H b=none->b≠x:=λb n z=>by subst z;rw[n]at d;exact d
 have j:∀b,H b=none->b≠e:=λb n z=>by
  subst z
  rcases l with r|r
  ·exact i b n r
  ·rw[n]at r;cases r
 have f:∀b u,H b=some u->¬IL (some u)->b≠x:=λb u q nm z=>by subst z;rw[q]at d;exact nm d
 refine⟨λb u q n _ _=>k b u (j b n) q,λb u q n _ _=>⟨u.slots,k b u (j b n) q⟩,λb u q n _=>by rw[aA (i b n)];exact n,λb u q _=> ?_,λb xs q=>by rw[aA (f b _ q λz=>z)];exact q,λb u xs q=>by rw[aA (f b _ q λz=>z)];exact q,λb ps q=>⟨#[],by rw[aA (f b _ q λz=>z),q];simp⟩⟩
 by_cases c:b=e;subst c;exact g;exact⟨u,k b u c q⟩
end
def trk(h:Heap)(H:Hp):List Addr:=(List.range h.objs.size).filter λa=>(H a).isSome
def oU(h:Heap)(H:Hp):Heap:=W.hideAll h (trk h H)
theorem xJ(h:Heap)(H:Hp):(oU h H).objs.size=h.objs.size:=W.hideAll_size _ _
theorem AU{o:Obj}(e:h.get? b=some o)(n:H b=none):(oU h H).get? b=some o := W.hideAll_get _ e λhm=>by have q:=(Ly.mp hm).2;rw[n]at q;simp at q
theorem Cs{o:Obj}(e:(oU h H).get? b=some o):h.get? b=some o/\H b=none:=by
 have a :=W.of_hideAll (trk h H) e;refine⟨a,?_⟩;cases q:H b with
 |none=>rfl|some x =>have c:b∈trk h H:=Ly.mpr ⟨Lg.mpr (LG a),by simp[q]⟩;have z:(oU h H).get? b=none:=W.hideAll_none (trk h H) c;rw[z]at e;cases e
def EB(g h:Heap)(L:Addr):List (Addr×Obj):=(List.range h.objs.size).filterMap λa=>if a=L\/(g.get? a).isSome=true then none else(h.get? a).map λo=>(a,o)
def aa(g h:Heap)(L d:Addr):List (Addr×Obj):=(EB g h L).filter λp=>decide (p.1≠d)
structure Mod(K:W.Frag)(mg:Str->Option Value)(base:Heap):Prop where
 kin:K.In base
 glob:base.Ns mainGlobals mg
 blt:∃mb,base.Ns builtinsNs mb/\∀x:Str,x≠"__name__"->mb x=bootBuiltins x
 nolimit:base.NoLimit
structure Cx where
 prog:Program
 w:World
 K:W.Frag
 mg:Str->Option Value
 base:Heap
 A:Around
 N:List Str
 s₀:Shared
 H₀:Hp
 env:Env
 outer:List Env
 stack:List Env
 ex:List Addr
 fn:Str->Bool
 calm:Bool
 pn:List (Addr×Obj)
 xe:Value->Shared->Prop
def sK(l:List Env):List Addr:=l.filterMap (·.frame)
abbrev Cx.fs(X:Cx):List Addr:=sK X.outer
def IJ(a:Scope)(x:Str):Prop:=a.names.lookup x=some .local\/a.names.lookup x=some .cell\/a.names.lookup x=some .free
def Loc(a:Scope)(x:Str):Prop:=a.names.lookup x=some .local\/a.names.lookup x=some .cell
def Look(a:Env)(h:Heap)(m:Str->Option Value)(x:Str)(u:Value):Prop :=
 (a.kindOf x=some .local/\m x=some u)\/((a.kindOf x=some .cell\/a.kindOf x=some .free)/\∃c,a.cells.lookup x=some c/\h.IsCell c (some u))
structure Cx.Ok(X:Cx):Prop where
 mod:Mod X.K X.mg X.base
 kind:X.env.scope.kind=.function
 glob:X.env.globals=mainGlobals
 blt:X.env.builtins=builtinsNs
 above:X.s₀.heap.objs.size<=X.env.locals
 inj:∀x y c,X.env.cells.lookup x=some c->X.env.cells.lookup y=some c->x=y
 has:∀x,(X.env.kindOf x=some .cell\/X.env.kindOf x=some .free)->∃c,X.env.cells.lookup x=some c
 cab:∀x c,X.fn x=true->X.env.cells.lookup x=some c->X.s₀.heap.objs.size<=c
 hd:X.calm=true->X.A.handled=none
 frames:X.A.frames=some X.stack
 stk:X.stack=X.outer\/(X.stack=X.env::X.outer/\X.env.frame=some X.env.locals)
 exf:∀b∈X.ex,b≠X.env.locals/\∀x c,X.env.cells.lookup x=some c->c≠b
 bs:∀b o,X.base.get? b=some o->X.s₀.heap.get? b=some o/\X.H₀ b=none
 bsz:X.base.objs.size<=X.s₀.heap.objs.size
 noex:∀b o,X.base.get? b=some o->b∉X.ex
 exfs:∀b∈X.ex,b∉X.fs
 funs:X.s₀.heap.FunFrames X.base X.outer
 frf:∀b∈X.fs,X.H₀ b=none
structure Inv(X:Cx)(pins:List (Addr×Obj))(σ:List (Option V))(H:Hp)(s:Shared):Prop where
 ok:X.Ok
 os:s.os=X.s₀.os
 bare:AllBare s.gens
 base:Un X.fs X.ex X.H₀ H X.s₀.heap s.heap
 loc:∃m,s.heap.Ns X.env.locals m/\∀(i:Nat)(x:Str)(v:V),X.N[i]? =some x->σ[i]? =some (some v)->IJ X.env.scope x->∃u,RelV v u/\Look X.env s.heap m x u
 cell:∀x c,X.env.cells.lookup x=some c->∃v,s.heap.IsCell c v
 free:H X.env.locals=none
 freeC:∀x c,X.env.cells.lookup x=some c->H c=none
 pin:∀p∈X.pn++pins,s.heap.get? p.1=some p.2/\H p.1=none/\p.1≠X.env.locals/\p.1∉X.fs/\∀v,p.2.data≠.cell v
 hok:dm X.prog X.w H s.heap
 len:σ.length=X.N.length
section
variable{X:Cx}{pins:List (Addr×Obj)}{σ:List (Option V)}{H H' :Hp}{s:Shared}{h' :Heap}
theorem Cx.Ok.nofr(a:X.Ok){o:Obj}(e:X.base.get? b=some o):b∉X.fs:=λhb=>by have:=(a.funs.mem hb).1;rw[e]at this;cases this
theorem Inv.bs(I:Inv X pins σ H s):∀b o,X.base.get? b=some o->s.heap.get? b=some o/\H b=none:=λb o e =>
 ⟨I.base.keep b o (I.ok.bs b o e).1 (I.ok.bs b o e).2 (I.ok.nofr e) (I.ok.noex b o e),I.base.free b o (I.ok.bs b o e).1 (I.ok.bs b o e).2 (I.ok.noex b o e)⟩
theorem Inv.bk(I:Inv X pins σ H s):∀b o,X.base.get? b=some o->s.heap.get? b=some o:=λb o e=>(I.bs b o e).1
theorem Inv.mod(I:Inv X pins σ H s):Mod X.K X.mg X.base:=I.ok.mod
theorem Inv.kIn(I:Inv X pins σ H s):X.K.In s.heap:=I.ok.mod.kin.keeps I.bk
theorem Inv.lt(I:Inv X pins σ H s):X.env.locals<s.heap.objs.size:=let⟨_,hn,_⟩:=I.loc;hn.lt
theorem Inv.sz(I:Inv X pins σ H s):X.s₀.heap.objs.size<=s.heap.objs.size:=LM I.ok.above (Mp I.lt)
theorem Inv.nofs(I:Inv X pins σ H s)(h:s.heap.objs.size<=a):a∉X.fs:=λhb=>by obtain⟨_,o,b,_⟩:=I.ok.funs.mem hb;exact absurd (La (LG b) (LM I.sz h)) (MQ _)
theorem Inv.cne(I:Inv X pins σ H s):∀x c,X.env.cells.lookup x=some c->c≠X.env.locals:=λx c e z=>by obtain⟨v,o,f,d⟩:=I.cell x c e;obtain⟨m,⟨g,i,h,a,b,_⟩,_⟩:=I.loc;rw[z,a]at f;cases f;rw[b]at d;cases d
theorem Inv.funs(I:Inv X pins σ H s):s.heap.FunFrames X.base X.outer:=by
 have c:∀l,(∀b∈sK l,b∈X.fs)->X.s₀.heap.FunFrames X.base l->s.heap.FunFrames X.base l:=by
  intro l
  induction l with
  |nil=>intro _ _;trivial|cons g r q =>intro f j;obtain⟨i,⟨L,o,d,p,n,m⟩,h⟩:=j;have a:=f L (by unfold sK;rw[NK,d];exact K6);obtain⟨u,e⟩:=I.base.slot L o n (I.ok.frf L a) a λz=>I.ok.exfs L z a;exact⟨i,⟨L,_,d,p,e,m⟩,q (λb hb=>f b (by unfold sK;rw[NK,d];exact Kx _ hb)) h⟩
 exact c X.outer (λ_ hb=>hb) I.ok.funs
theorem Inv.stack(I:Inv X pins σ H s):s.heap.FunFrames X.base X.stack:=by
 rcases I.ok.stk with e|⟨e,a⟩
 ·rw[e];exact I.funs
 ·rw[e]
  obtain⟨m,b,_⟩:=I.loc;refine .cons (by rw[I.ok.kind];decide) a b ?_ I.funs;exact Nu (LM I.ok.bsz I.ok.above)
theorem Inv.stkSub(I:Inv X pins σ H s):∀b∈sK X.stack,b∈X.env.locals::X.fs:=λb hb=>by
 rcases I.ok.stk with e|⟨e,a⟩
 ·rw[e]at hb;exact Kx _ hb
 ·rw[e]at hb
  unfold sK at hb;rw[NK,a]at hb;exact hb
theorem Inv.stkFree(I:Inv X pins σ H s):∀b∈sK X.stack,H b=none:=λb hb=>by
 rcases LB.mp (I.stkSub b hb)with e|hb
 ·rw[e];exact I.free
 ·obtain⟨_,o,a,_⟩:=I.ok.funs.mem hb
  exact I.base.free b o a (I.ok.frf b hb) λz=>I.ok.exfs b z hb
theorem Inv.step{g':Array GenState}{d':Drawn}{ch:List Addr}(I:Inv X pins σ H s)
  (g:∀b∈ch,(b∈X.ex\/X.s₀.heap.objs.size<=b)/\b≠X.env.locals/\(∀x c,X.env.cells.lookup x=some c->c≠b)/\∀p∈X.pn++pins,p.1≠b)
  (f:∀b o,b≠X.env.locals->b∉X.fs->b∉ch->s.heap.get? b=some o->H b=none->h'.get? b=some o)
  (C:∀b o,b≠X.env.locals->b∈X.fs->b∉ch->s.heap.get? b=some o->H b=none->∃Y,h'.get? b=some {o with slots:=Y}) (a:∀b o,b∉ch->s.heap.get? b=some o->H b=none->H' b=none)
  (E:∀b o,b∉ch->s.heap.get? b=some o->∃Q,h'.get? b=some Q)
  (O:∀b D,H b=some (.tup D)->H' b=some (.tup D)) (K:∀b o u,H b=some (.frz o u)->H' b=some (.frz o u)) (R:∀b S,H b=some (.tbl S)->∃N,H' b=some (.tbl (S++N)))
  (ns:∀m,s.heap.Ns X.env.locals m->h'.Ns X.env.locals m) (U:dm X.prog X.w H' h') (hg:AllBare g') :
  Inv X pins σ H' {s with heap:=h',gens:=g',drawn:=d',toks:=t'}:=by
 have L:∀b o,X.s₀.heap.get? b=some o->b≠X.env.locals:=λb o e=>LV (La (LG e) I.ok.above);have A:∀b o,X.s₀.heap.get? b=some o->b∉X.ex->b∉ch:=λb o e hx hb=>by
  rcases(g b hb).1 with z|z
  ·exact hx z
  ·exact absurd (La (LG e) z) (MQ _)
 have j:∀x c,X.env.cells.lookup x=some c->∀v,s.heap.IsCell c v->h'.IsCell c v:=λx c e v ⟨o,J,W⟩=>by
  have h:=λz=>(g c z).2.2.1 x c e rfl
  by_cases hc:c∈X.fs
  ·obtain⟨Y,q⟩:=C c o (I.cne x c e) hc h J (I.freeC x c e)
   exact⟨_,q,W⟩
  ·exact⟨o,f c o (I.cne x c e) hc h J (I.freeC x c e),W⟩
 refine⟨I.ok,I.os,hg,⟨λb o e n hb hx=> ?_,λb o e n hb hx=> ?_,λb o e n hx=> ?_,λb o e hx=> ?_,λb D e=>O b D (I.base.tups b D e),λb o D e=>K b o D (I.base.frzs b o D e),λb S e=> ?_⟩,?_,λx c e=> ?_,?_,λx c e=> ?_,λp hp=> ?_,U,I.len⟩
 ·exact f b o (L b o e) hb (A b o e hx) (I.base.keep b o e n hb hx) (I.base.free b o e n hx)
 ·obtain⟨Y,y⟩:=I.base.slot b o e n hb hx
  obtain⟨T,M⟩:=C b _ (L b o e) hb (A b o e hx) y (I.base.free b o e n hx);exact⟨T,M⟩
 ·obtain⟨Q,y⟩:=I.base.there b o e hx
  exact a b Q (A b o e hx) y (I.base.free b o e n hx)
 ·obtain⟨Q,y⟩:=I.base.there b o e hx
  exact E b Q (A b o e hx) y
 ·obtain⟨m1,y⟩:=I.base.tbls b S e
  obtain⟨m2,M⟩:=R b _ y;exact⟨m1++m2,by rw[M,Array.append_assoc]⟩
 ·obtain⟨m,hn,hl⟩:=I.loc
  refine⟨m,ns m hn,λi x v y M e3=> ?_⟩;obtain⟨u,r,l⟩:=hl i x v y M e3;refine⟨u,r,?_⟩
  rcases l with l|⟨k,c,e,z⟩
  ·exact .inl l
  ·exact .inr ⟨k,c,e,j x c e _ z⟩
 ·obtain⟨v,z⟩:=I.cell x c e
  exact⟨v,j x c e v z⟩
 ·obtain⟨m,⟨o,_,_,J,_⟩,_⟩:=I.loc
  exact a _ o (λz=>(g _ z).2.1 rfl) J I.free
 ·obtain⟨v,o,J,W⟩:=I.cell x c e
  exact a c o (λz=>(g c z).2.2.1 x c e rfl) J (I.freeC x c e)
 ·obtain⟨e,n,Z,nf,d⟩:=I.pin p hp
  have h:=λz=>(g p.1 z).2.2.2 p hp rfl;exact⟨f p.1 p.2 Z nf h e n,a p.1 p.2 h e n,Z,nf,d⟩
theorem Inv.un{t':Nat}(I:Inv X pins σ H s)(u:Un X.fs [] H H' s.heap h')(f:dm X.prog X.w H' h'):Inv X pins σ H' {s with heap:=h',toks:=t'}:=by obtain⟨m,⟨o,p,q,g,r⟩,_⟩:=id I.loc;obtain⟨j,h⟩:=u.any g I.free (by simp);exact I.step (ch:=[]) (λ_ z=>nomatch z) (λb o _ hb _ e n=>u.keep b o e n hb (by simp)) (λb o _ hb _ e n=>u.slot b o e n hb (by simp)) (λb o _ e n=>u.free b o e n (by simp)) (λb o _ e=>u.there b o e (by simp)) u.tups u.frzs u.tbls (λm' hm=>by obtain⟨l,d,c,a,i⟩:=hm;rw[g]at a;cases a;exact⟨_,d,c,h,i⟩) f I.bare
theorem Inv.call{g':Array GenState}{t':Nat}{d':Drawn}{ch:List Addr}(I:Inv X pins σ H s)(u:Un (sK X.stack) ch H H' s.heap h')(h:dm X.prog X.w H' h')(q:AllBare g')
  (a:∀b∈ch,(b∈X.ex\/X.s₀.heap.objs.size<=b)/\b≠X.env.locals/\(∀x c,X.env.cells.lookup x=some c->c≠b)/\∀p∈X.pn++pins,p.1≠b) :
  Inv X pins σ H' {s with heap:=h',gens:=g',drawn:=d',toks:=t'}:=by
 obtain⟨m,⟨o,v,A,j,r⟩,_⟩:=id I.loc;obtain⟨C,f⟩:=u.any j I.free λz=>(a _ z).2.1 rfl;exact I.step a (λb o f hb hc e n=>u.keep b o e n (λz=>(LB.mp (I.stkSub b z)).elim f hb) hc) (λb o _ _ hc e n=>u.any e n hc) (λb o hc e n=>u.free b o e n hc) (λb o hc e=>u.there b o e hc) u.tups u.frzs u.tbls (λm' hm=>by obtain⟨y,i,g,d,l⟩:=hm;rw[j]at d;cases d;exact⟨_,i,g,f,l⟩) h q
theorem Inv.turned{t':Nat}{it:Addr}(I:Inv X pins σ H s)(k:∀b o,b≠it->s.heap.get? b=some o->h'.get? b=some o)(m:H it=none)(d:it≠X.env.locals)
  (j:it∈X.ex\/X.s₀.heap.objs.size<=it) (f:∀x c,X.env.cells.lookup x=some c->c≠it) (i:∀p∈X.pn++pins,p.1≠it):Inv X pins σ H {s with heap:=h',toks:=t'}:=by
 have a:∀b u,H b=some u->b≠it:=λb u e z=>by rw[z,m]at e;cases e
 refine I.step (ch:=[it]) (λb hb=> ?_) (λb o _ _ hc e _=>k b o (λz=>hc (by simp[z])) e) (λb o _ _ hc e _=>⟨o.slots,k b o (λz=>hc (by simp[z])) e⟩) (λ_ _ _ _ n=>n)
  (λb o hc e=>⟨o,k b o (λz=>hc (by simp[z])) e⟩) (λ_ _ e=>e) (λ_ _ _ e=>e) (λb ps e=>⟨#[],by rw[e];simp⟩) (λm hm=> ?_) (λb u e=> ?_) I.bare
 ·have e:b=it:=by simpa using hb
  subst e;exact⟨j,d,f,i⟩
 ·obtain⟨o,g,h,l,r⟩:=hm
  exact⟨o,g,h,k _ o (MC d) l,r⟩
 ·refine(I.hok b u e).stay (λc v hc q=>k c v ?_ q) (λ_ q=>q) λ_ _ q=>q
  rcases hc with z|z
  ·rw[z];exact a b u e
  ·exact a c _ z
theorem Inv.tok(I:Inv X pins σ H s)(t:Nat):Inv X pins σ H {s with toks:=t}:=I.un Un.refl I.hok
theorem Inv.kept{t':Nat}(I:Inv X pins σ H s)(k:∀b u,s.heap.get? b=some u->h'.get? b=some u):Inv X pins σ H {s with heap:=h',toks:=t'}:=I.un (Un.kept k) (I.hok.kept k)
theorem Inv.laid{a:Addr}{o:HO}{t':Nat}(I:Inv X pins σ H s)(k:∀b u,s.heap.get? b=some u->h'.get? b=some u)(d:s.heap.objs.size<=a)(c:au X.prog X.w (upd H a o) h' a o) :
  Inv X pins σ (upd H a o) {s with heap:=h',toks:=t'}:=I.un (Un.laid k d (I.hok.fresh d)) (I.hok.laid k d c)
theorem Inv.write{x e:Addr}{o:HO}(I:Inv X pins σ H s)(d:IL (H x))(f:e=x\/H e=some (.own x))(k:∀b u,b≠e->s.heap.get? b=some u->h'.get? b=some u)(a:∃u,h'.get? e=some u)
  (c:au X.prog X.w (upd H x o) h' x o):Inv X pins σ (upd H x o) {s with heap:=h',toks:=g}:=I.un (Un.write d f k a) (I.hok.write d f k a c)
theorem Inv.weak(I:Inv X pins σ H s)(b:a.length=σ.length)(w:∀(i:Nat) v,a[i]? =some (some v)->σ[i]? =some (some v)):Inv X pins a H s := ⟨I.ok,I.os,I.bare,I.base,let⟨m,hn,hl'⟩:=I.loc;⟨m,hn,λi x v e1 e2 e3=>hl' i x v e1 (w i v e2) e3⟩,I.cell,I.free,I.freeC,I.pin,I.hok,b.trans I.len⟩
theorem Inv.pins_of(I:Inv X pins σ H s)(h:∀p∈a,s.heap.get? p.1=some p.2/\H p.1=none/\p.1≠X.env.locals/\p.1∉X.fs/\∀v,p.2.data≠.cell v):Inv X a σ H s := ⟨I.ok,I.os,I.bare,I.base,I.loc,I.cell,I.free,I.freeC,λp hp=>(LP.mp hp).elim (λz=>I.pin p (LQ _ z)) (h p),I.hok,I.len⟩
theorem iY{N:List Str}(c:N.Nodup){i:Nat}(a:N[i]? =some x)(b:N[j]? =some x):i=j:=by obtain⟨g,e⟩:=Kw.mp a;obtain⟨f,d⟩:=Kw.mp b;exact(List.getElem_inj c).mp (e.trans d.symm)
theorem mM{A:Around}{i:Nat}{v:V}(I:Inv X pins σ H s)(hN:X.N.Nodup)(U:X.N[i]? =some x)(C:Loc X.env.scope x)(r:RelV v u)
  (h:∀s',Inv X pins (σ.set i (some v)) H s' ->(∃a,Heap.SameBut a s.heap s'.heap/\(a=X.env.locals\/X.env.cells.lookup x=some a))->Q () s') (hf:X.fn x=true\/X.env.scope.names.lookup x=some .local:=by first|exact .inl rfl|exact .inr rfl|assumption):wpAny M A (storeName X.env x u) Q E s:=by
 obtain⟨m,hn,hl⟩:=id I.loc;have Y:(X.env.scope.kind== .class||(X.env.scope.kind== .module&&X.env.locals !=X.env.globals))=false:=by rw[I.ok.kind];rfl
 have J:i<σ.length:=by rw[I.len];exact(Kw.mp U).1
 have O:=I.cne;have g:∀{a:Addr}{h' :Heap},(∃o,s.heap.get? a=some o/\H a=none)->Heap.SameBut a s.heap h' ->dm X.prog X.w H h' :=λ{a h'} ha hs b ob e=>by
  obtain⟨_,_,D⟩:=ha;refine(I.hok b ob e).stay (λc w' l q=>(hs.2 c ?_).trans q) (λ_ q=>q) λ_ _ q=>q;rintro rfl
  rcases l with rfl|l
  ·rw[D]at e;cases e
  ·rw[D]at l;cases l
 rcases C with K|K
 ·refine wpAny_storeName_local K hn (λh' hn' hs=> ?_) Y
  obtain⟨oL,_,_,a0,_⟩:=id hn;refine h _ ⟨I.ok,I.os,I.bare,⟨λb o e n hb C=> ?_,λb o e n hb C=> ?_,I.base.free,λb o e C=> ?_,I.base.tups,I.base.frzs,I.base.tbls⟩,⟨_,hn',λj y v' f e2 e3=> ?_⟩,λy c e=> ?_,I.free,I.freeC,λp hp=> ?_,g ⟨oL,a0,I.free⟩ hs,by simpa using I.len⟩ ⟨_,hs,.inl rfl⟩
  ·exact(hs.2 b (LV (La (LG e) I.ok.above))).trans (I.base.keep b o e n hb C)
  ·obtain⟨sl,f⟩:=I.base.slot b o e n hb C
   exact⟨sl,(hs.2 b (LV (La (LG e) I.ok.above))).trans f⟩
  ·obtain⟨o',f⟩:=I.base.there b o e C
   exact⟨o',(hs.2 b (LV (La (LG e) I.ok.above))).trans f⟩
  ·by_cases R:j=i
   ·subst R
    rw[U]at f;cases f;rw[Ll J]at e2;cases e2;exact⟨u,r,.inl ⟨K,by simp⟩⟩
   ·rw[Lf (MC R)]at e2
    obtain⟨u',r',q⟩:=hl j y v' f e2 e3;refine⟨u',r',?_⟩
    rcases q with⟨k,e⟩|⟨k,c,e,z⟩
    ·refine .inl ⟨k,?_⟩
     have:y≠x:=λe=>R (iY hN f (e▸U));simp[this,e]
    ·exact .inr ⟨k,c,e,z.sameBut hs (O y c e)⟩
  ·obtain⟨w',z⟩:=I.cell y c e
   exact⟨w',z.sameBut hs (O y c e)⟩
  ·obtain⟨e,n,Z,nf,d⟩:=I.pin p hp
   exact⟨(hs.2 p.1 Z).trans e,n,Z,nf,d⟩
 ·have L:X.fn x=true:=by
   rcases hf with z|z
   ·exact z
   ·rw[z]at K;cases K
  obtain⟨c,l⟩:=I.ok.has x (.inl K);obtain⟨w',z⟩:=I.cell x c l;refine wpAny_storeName_cell I.ok.kind K l z (λh' hc' hs=> ?_);obtain⟨oc,W,T⟩:=id z;refine h {s with heap:=h'} ⟨I.ok,I.os,I.bare,⟨λb o e n hb C=> ?_,λb o e n hb C=> ?_,I.base.free,λb o e C=> ?_,I.base.tups,I.base.frzs,I.base.tbls⟩,⟨m,hn.sameBut hs (MC (O x c l)),λj y v' f e2 e3=> ?_⟩,λy c' e=> ?_,I.free,I.freeC,λp hp=> ?_,g ⟨oc,W,I.freeC x c l⟩ hs,by simpa using I.len⟩ ⟨c,hs,.inr l⟩
  ·exact(hs.2 b (LV (La (LG e) (I.ok.cab x c L l)))).trans (I.base.keep b o e n hb C)
  ·obtain⟨sl,f⟩:=I.base.slot b o e n hb C
   exact⟨sl,(hs.2 b (LV (La (LG e) (I.ok.cab x c L l)))).trans f⟩
  ·obtain⟨o',f⟩:=I.base.there b o e C
   exact⟨o',(hs.2 b (LV (La (LG e) (I.ok.cab x c L l)))).trans f⟩
  ·by_cases R:j=i
   ·subst R
    rw[U]at f;cases f;rw[Ll J]at e2;cases e2;exact⟨u,r,.inr ⟨.inl K,c,l,hc'⟩⟩
   ·rw[Lf (MC R)]at e2
    obtain⟨u',r',q⟩:=hl j y v' f e2 e3;refine⟨u',r',?_⟩
    rcases q with q|⟨k,c',e,z'⟩
    ·exact .inl q
    ·refine .inr ⟨k,c',e,z'.sameBut hs ?_⟩
     rintro rfl;exact R (iY hN f (I.ok.inj _ _ _ e l▸U))
  ·by_cases S:c' =c
   ·subst S;exact⟨_,hc'⟩
   ·obtain⟨w2,z2⟩:=I.cell y c' e
    exact⟨w2,z2.sameBut hs S⟩
  ·obtain⟨e,n,Z,nf,d⟩:=I.pin p hp
   refine⟨(hs.2 p.1 ?_).trans e,n,Z,nf,d⟩;intro q;rw[q,W]at e;have q' :=LR e;exact d w' (by rw[<- q'];exact T)
theorem fH{A:Around}{i:Nat}{v:V}(I:Inv X pins σ H s)(hN:X.N.Nodup)(hi:X.N[i]? =some x)(hx:Loc X.env.scope x)(r:RelV v u)
  (h:∀s',Inv X pins (σ.set i (some v)) H s' ->Q () s') (hf:X.fn x=true\/X.env.scope.names.lookup x=some .local:=by first|exact .inl rfl|exact .inr rfl|assumption):wpAny M A (storeName X.env x u) Q E s :=
 mM I hN hi hx r (λs' I' _=>h s' I') hf
theorem Inv.call'{s':Shared}{ch:List Addr}(I:Inv X pins σ H s)(j:s'.os=s.os)(u:Un (sK X.stack) ch H H' s.heap s'.heap)(d:dm X.prog X.w H' s'.heap)(l:AllBare s'.gens)
  (a:∀b∈ch,(b∈X.ex\/X.s₀.heap.objs.size<=b)/\b≠X.env.locals/\(∀x c,X.env.cells.lookup x=some c->c≠b)/\∀p∈X.pn++pins,p.1≠b):Inv X pins σ H' s' :=by
 obtain⟨m,g,h,f,i⟩:=s';have e:=j;subst e;exact I.call u d l a
end
abbrev XK:=Value->Option Addr->Hp->Prop
abbrev St:=List (Option V)
abbrev VK:=V->Hp->Prop
abbrev TE:=St->Hp->VK->Prop
abbrev TT:=St->Hp->(Bool->Hp->Prop)->Prop
abbrev TA:=St->Hp->(List V->Hp->Prop)->Prop
structure cO where
 nx:St->Hp->Prop
 rt:VK
 bk:St->Hp->Prop:=fun _ _=>False
 ct:St->Hp->Prop:=fun _ _=>False
abbrev TS:=cO->St->Hp->Prop
def EP(X:Cx)(a:List (Addr×Obj))(c:St)(Q:VK)(u:Value)(d :Shared):Prop:=∃v b,Inv X a c b d /\RelV v u/\Q v b
def TP(X:Cx)(a:List (Addr×Obj))(d:St)(Q:Bool->Hp->Prop)(b:Bool)(e :Shared):Prop:=∃c,Inv X a d c e /\Q b c
def AP(X:Cx)(a:List (Addr×Obj))(d:St)(Q:List V->Hp->Prop)(us:List Value)(e :Shared):Prop:=∃b c,Inv X a d c e /\aN b us/\Q b c
def SP(X:Cx)(b:List (Addr×Obj))(D:cO)(f:Flow)(d :Shared):Prop :=
 match f with
 | .next=>∃a c,Inv X b a c d /\D.nx a c| .brk=>∃a c,Inv X b a c d /\D.bk a c| .cont=>∃a c,Inv X b a c d /\D.ct a c| .ret u=>∃v a c,Inv X b a c d /\RelV v u/\D.rt v c
def PE(X:Cx)(e:Expr)(t:TE):Prop :=
 ∀(a:List (Addr×Obj))(s:Shared)(b:St)(H:Hp)(Q:VK),Inv X a b H s->t b H Q->wpAny (model X.prog X.w) X.A (eval e X.env) (EP X a b Q) X.xe s
def PT(X:Cx)(e:Expr)(t:TT):Prop :=
 ∀(a:List (Addr×Obj))(s:Shared)(b:St)(H:Hp)(Q:Bool->Hp->Prop),Inv X a b H s->t b H Q->wpAny (model X.prog X.w) X.A (isTrue e X.env (eval e X.env)) (TP X a b Q) X.xe s
def PW(X:Cx)(e:Expr)(t:TT):Prop :=
 ∀(b:Sem Value)(a:List (Addr×Obj))(s:Shared)(c:St)(H:Hp)(Q:Bool->Hp->Prop),Inv X a c H s->t c H Q->wpAny (model X.prog X.w) X.A (isTrue e X.env b) (TP X a c Q) X.xe s
theorem PW.pt{t:TT}(h:PW X e t):PT X e t:=h _
def PA(X:Cx)(c:List Expr)(t:TA):Prop :=
 ∀(pos:Pos)(a:List (Addr×Obj))(s:Shared)(b:St)(H:Hp)(Q:List V->Hp->Prop),Inv X a b H s->t b H Q->wpAny (model X.prog X.w) X.A (spliced (backTo pos (starEach c X.env))) (AP X a b Q) X.xe s
def PS(X:Cx)(c:Stmt)(t:TS):Prop :=
 ∀(a:List (Addr×Obj))(s:Shared)(b:St)(H:Hp)(D:cO),Inv X a b H s->t D b H->wpAny (model X.prog X.w) X.A (exec c X.env) (SP X a D) X.xe s
def pB(X:Cx)(c:List Stmt)(t:TS):Prop :=
 ∀(a:List (Addr×Obj))(s:Shared)(b:St)(H:Hp)(D:cO),Inv X a b H s->t D b H->wpAny (model X.prog X.w) X.A (execs c X.env) (SP X a D) X.xe s
theorem am{b:Type}{t:Sem b}{Q c:b->Shared->Prop}{A:Around}{s:Shared}(h:wpAny M A t Q E s)(d:∀a s,Q a s->c a s):wpAny M A t c E s:=MF h d λ_ _ x=>x
section
variable{X:Cx}
theorem bin{a b:Expr}{j l:TE}(C:PE X a j)(D:PE X b l){c:List (Addr×Obj)}{s:Shared}{d:St}{H:Hp}{R:V->V->Hp->Prop}(I:Inv X c d H s)(h:j d H λx i=>l d i λy e=>R x y e)
  {m:Type} {Q:m->Shared->Prop} {f:Value->Value->Sem m}
  (q:∀v u g x y e,Inv X c d e g->RelV x v->RelV y u->R x y e->wpAny (model X.prog X.w) X.A (f v u) Q X.xe g) :
  wpAny (model X.prog X.w) X.A (eval a X.env) (λv s₁=>wpAny (model X.prog X.w) X.A (eval b X.env) (λu s₂=>wpAny (model X.prog X.w) X.A (f v u) Q X.xe s₂) X.xe s₁) X.xe s:=by
 refine am (C c s d H _ I h) λv s1 hpq=> ?_;obtain⟨x,i,z,p,n⟩:=hpq;refine am (D c s1 d i _ z n) λu g hpq=> ?_;obtain⟨y,e,o,E,r⟩:=hpq;exact q v u g x y e o p E r
def FF(i:Nat):TE:=λσ H Q=>∃v,σ[i]? =some (some v)/\Q v H
def tC(v:V):TE:=λ_ H Q=>Q v H
theorem jN{i:Nat}(p:X.N[i]? =some x)(q:IJ X.env.scope x)(j:(x==("__debug__":Str))=false:=by decide)(g:(x==("__classdict__":Str))=false:=by decide):PE X (.Name x pos) (FF i):=by
 intro f s o H Q I h;obtain⟨v,e,h⟩:=h;obtain⟨m,z,y⟩:=I.loc;obtain⟨u,r,l⟩:=y i x v p e q;have b:EP X f o Q u s:=⟨v,H,I,r,h⟩
 rcases l with⟨d,w⟩|⟨d,c,n,a⟩
 ·exact wpAny_Name (wpAny_loadName_local I.ok.kind d z w b) j
 ·rcases d with d|d
  ·exact wpAny_Name (wpAny_loadName_cell I.ok.kind d n a b) j
  ·exact wpAny_Name (wpAny_loadName_free I.ok.kind d n a b g) j
theorem bA{i j pos}:PE X (.Constant (.int i) j pos) (tC (.int i)):=λ_ _ _ H _ I h=>wpAny_Constant_int ⟨.int i,H,I.tok _,⟨_,rfl⟩,h⟩
theorem vE{b j pos}:PE X (.Constant (.bool b) j pos) (tC (.bl b)):=λ_ _ _ H _ I h=>Constant_bool ⟨.bl b,H,I,rfl,h⟩
theorem zU{j pos}:PE X (.Constant .none j pos) (tC .non):=λ_ _ _ H _ I h=>Constant_none ⟨.non,H,I,rfl,h⟩
theorem bV{x j pos}:PE X (.Constant (.str x) j pos) (tC (.str x)):=λ_ _ _ H _ I h=>Calls.Constant_str ⟨.str x,H,I.tok _,⟨_,rfl⟩,h⟩
def Gl(X:Cx)(x:Str):Prop:=X.env.kindOf x=some .globalImplicit
theorem fj{s:Shared}(I:Inv X a c H s)(e:Gl X x)(b:X.mg x=some u)(h:Q u s)
  (d:(x==("__debug__":Str))=false:=by decide):wpAny (model X.prog X.w) X.A (eval (.Name x pos) X.env) Q E s :=
 Calls.Name_function_global I.ok.kind e (Calls.loadGlobal_global (by rw[I.ok.glob];exact I.mod.glob.keeps I.bk) b h) d
theorem eR{s:Shared}(I:Inv X a c H s)(i:Gl X x)(b:X.mg x=none)(j:bootBuiltins x=some u)(h:Q u s)
  (g:x≠"__name__":=by decide) (e:(x==("__debug__":Str))=false:=by decide):wpAny (model X.prog X.w) X.A (eval (.Name x pos) X.env) Q E s:=by
 obtain⟨l,f,d⟩:=I.mod.blt;exact Calls.Name_function_global I.ok.kind i (Calls.loadGlobal_builtin (by rw[I.ok.glob];exact I.mod.glob.keeps I.bk) b (by rw[I.ok.blt];exact f.keeps I.bk) ((d x g).trans j) h) e
theorem iT{v:V}(c:Gl X x)(a:X.mg x=some u)(r:RelV v u)(b:(x==("__debug__":Str))=false:=by decide):PE X (.Name x pos) (tC v) := λ_ _ _ H _ I h=>fj I c a ⟨v,H,I,r,h⟩ b
theorem Ck{v:V}(d:Gl X x)(a:X.mg x=none)(e:bootBuiltins x=some u)(r:RelV v u)(c:x≠"__name__":=by decide)(b:(x==("__debug__":Str))=false:=by decide):PE X (.Name x pos) (tC v) := λ_ _ _ H _ I h=>eR I d a e ⟨v,H,I,r,h⟩ c b
def t2I(a b:TE)(k:Int->Int->Hp->Prop):St->Hp->Prop:=λσ H=>a σ H λx H1=>b σ H1 λy H2=>∃i j,x=.int i/\y=.int j/\k i j H2
variable{a b:Expr}{ta tb:TE}{pos:Pos}
def PC(X:Cx)(e:CmpOp)(a b:Expr)(t:TE):Prop :=
 ∀(c:List (Addr×Obj))(s:Shared)(d:St)(H:Hp)(Q:VK),Inv X c d H s->t d H Q -> wpAny (model X.prog X.w) X.A (eval a X.env) (λv s₁=>wpAny (model X.prog X.w) X.A (eval b X.env) (λu s₂=>wpAny (model X.prog X.w) X.A (compareOp e v u) (EP X c d Q) X.xe s₂) X.xe s₁) X.xe s
theorem qU(b:Expr)(h:c≠.In)(d:c≠.NotIn):behindInMarks c b=false:=by
 have f:(c==CmpOp.In)=false:=by cases c<;>first|rfl|exact absurd rfl h
 have e:(c==CmpOp.NotIn)=false:=by cases c<;>first|rfl|exact absurd rfl d
 cases b<;>simp[behindInMarks,f,e]
def FK(p:Int->Int->Bool)(c d:TE):TE:=λσ H Q=>t2I c d (λi j H2=>Q (.bl (p i j)) H2) σ H
abbrev tLe:TE->TE->TE:=FK λi j=>decide (i<=j)
abbrev tEqI:TE->TE->TE:=FK λi j=>decide (i=j)
theorem zX(g:PE X a ta)(l:PE X b tb)
  (c:∀(i j:Int)(t u:Tok)(Q:Value->Shared->Prop)(s:Shared),Q (.bool (p i j)) s->wpAny (model X.prog X.w) X.A (compareOp e (.int i t) (.int j u)) Q X.xe s):PC X e a b (FK p ta tb):=by
 intro d s m H Q I h;refine bin g l I h λv u s2 x y H2 I2 rx ry q=> ?_;obtain⟨i,j,rfl,rfl,q⟩:=q;obtain⟨t,rfl⟩:=rx;obtain⟨f,rfl⟩:=ry;exact c i j t f _ s2 ⟨.bl _,H2,I2,rfl,q⟩
theorem JQ(c:PE X a ta)(d:PE X b tb):PC X .LtE a b (tLe ta tb):=zX c d λ_ _ _ _ _ _ h=>le_int h
theorem F8(c:PE X a ta)(d:PE X b tb):PC X .Eq a b (tEqI ta tb):=zX c d λ_ _ _ _ _ _ h=>eq_int (by rw[My];exact h)
def Ig(c:TE):TE:=λσ H Q=>c σ H λx H1=>Q (.bl (!decide (x=.non))) H1
theorem RelV.none_iff{v:Value}(r:RelV x v):(v==Value.none)=decide (x=.non):=by
 cases x with
 |non=>cases r;rfl|bl _=>cases r;rfl|int _=>obtain⟨t,rfl⟩:=r;rfl
 |str _=>obtain⟨t,rfl⟩:=r;rfl
 |byt _=>obtain⟨t,rfl⟩:=r;rfl
 |flt _=>obtain⟨t,rfl⟩:=r;rfl
 |ref _=>cases r;rfl|ty _=>cases r;rfl
theorem Cm{j pos'}(i:PE X a ta):PC X .IsNot a (.Constant .none j pos') (Ig ta):=by intro c s d H Q I h;refine am (i c s d H _ I h) λv s1 hpq=> ?_;obtain⟨x,g,f,l,e⟩:=hpq;exact Constant_none (isnot_none_gen ⟨.bl _,g,f,by rw[l.none_iff];rfl,e⟩)
def tB(t:TE):TT:=λσ H Q=>t σ H λx H1=>∃c,x=.bl c/\Q c H1
theorem F7{t:TE}(h:PC X c a b t)(d:behindInMarks c b=false:=by first|exact qU _ (by decide) (by decide)|rfl):PE X (.Compare a [c] [b] pos) t:=λpins s σ H Q I hw=>wpAny_Compare1 (h pins s σ H Q I hw) d
theorem nz{t:TE}(h:PC X e a b t)(f:behindInMarks e b=false:=by first|exact qU _ (by decide) (by decide)|rfl):PT X (.Compare a [e] [b] pos) (tB t):=by intro c s g H Q I i;refine wpAny_isTrue_Compare1 (am (h c s g H _ I i) λv s1 f=>am f λu s2 h2=>am h2 λc s3 ⟨x,H1,I1,r1,q1⟩=> ?_) f;obtain⟨d,rfl,q⟩:=q1;cases r1;exact L6 ⟨H1,I1,q⟩
theorem nh{t:TE}(h:PE X e t)(j:∀c,isTrue e X.env c=(do let v<-c;standAt e.pos;holding [v] (truthy v)):=by intro _;rfl):PT X e (tB t):=by intro f s g H Q I i;refine isTrue_plain (am (h f s g H _ I i) λv s1 ⟨x,H1,I1,r1,q1⟩=> ?_) (j _);obtain⟨d,rfl,q⟩:=q1;cases r1;exact L6 ⟨H1,I1,q⟩
variable{tA tB' :TT}{aa:List Expr}
def tAnd(t u:TT):TT:=λσ H Q=>t σ H λc H1=>if c=true then u σ H1 Q else Q false H1
def tOr(t u:TT):TT:=λσ H Q=>t σ H λc H1=>if c=true then Q true H1 else u σ H1 Q
def tNot(t:TT):TT:=λσ H Q=>t σ H λc H1=>Q (!c) H1
theorem CU(g:PT X a tA):PW X (.BoolOp .And [a] pos) tA:=by
 intro i d s f H Q I h;refine isTrue_and (am (g d s f H Q I h) λc s1 e=> ?_);cases c with
 |true=>exact isTrue_and_nil e|false=>exact e
theorem tI(g:PT X a tA):PW X (.BoolOp .Or [a] pos) tA:=by
 intro i d s f H Q I h;refine isTrue_or (am (g d s f H Q I h) λc s1 e=> ?_);cases c with
 |false=>exact isTrue_or_nil e|true=>exact e
theorem Fq(m:PT X a tA)(l:PW X (.BoolOp .And (b::aa) pos) tB'):PW X (.BoolOp .And (a::b::aa) pos) (tAnd tA tB'):=by
 intro j d s e H Q I h;refine isTrue_and (am (m d s e H _ I h) λc s1 hpq=> ?_);obtain⟨i,g,f⟩:=hpq;cases c with
 |true=>exact l j d s1 e i Q g f|false=>exact⟨i,g,f⟩
theorem zE(m:PT X a tA)(l:PW X (.BoolOp .Or (b::aa) pos) tB'):PW X (.BoolOp .Or (a::b::aa) pos) (tOr tA tB'):=by
 intro j d s e H Q I h;refine isTrue_or (am (m d s e H _ I h) λc s1 hpq=> ?_);obtain⟨i,g,f⟩:=hpq;cases c with
 |true=>exact⟨i,g,f⟩|false=>exact l j d s1 e i Q g f
theorem ni(f:PT X a tA):PT X (.UnaryOp .Not a pos) (tNot tA):=by intro d s e H Q I h;exact isTrue_not (f d s e H (λc H1=>Q (!c) H1) I h)
def Io(d e:TE):TE:=λσ H Q=>d σ H λx H1=>∃c,x=.bl c/\if c=true then e σ H1 Q else Q (.bl false) H1
def tOrV(d e:TE):TE:=λσ H Q=>d σ H λx H1=>∃c,x=.bl c/\if c=true then Q (.bl true) H1 else e σ H1 Q
def Ie(d:TE):TE:=λσ H Q=>d σ H λx H1=>∃c,x=.bl c/\Q (.bl (!c)) H1
theorem tJ{op}{t:TE}(h:PE X a t):PE X (.BoolOp op [a] pos) t:=λpins s σ H Q I hw=>BoolOp_one (h pins s σ H Q I hw)
theorem kx(l:PE X a ta)(j:PE X (.BoolOp .And (b::aa) pos) tb):PE X (.BoolOp .And (a::b::aa) pos) (Io ta tb):=by
 intro d s f H Q I h;refine BoolOp_and (am (l d s f H _ I h) λv s1 hpq=> ?_);obtain⟨x,i,g,m,e⟩:=hpq;obtain⟨c,rfl,e⟩:=e;cases m;refine L6 ?_;cases c with
 |true=>exact j d s1 f i Q g e|false=>exact⟨.bl false,i,g,rfl,e⟩
theorem EU(l:PE X a ta)(j:PE X (.BoolOp .Or (b::aa) pos) tb):PE X (.BoolOp .Or (a::b::aa) pos) (tOrV ta tb):=by
 intro d s f H Q I h;refine BoolOp_or (am (l d s f H _ I h) λv s1 hpq=> ?_);obtain⟨x,i,g,m,e⟩:=hpq;obtain⟨c,rfl,e⟩:=e;cases m;refine L6 ?_;cases c with
 |false=>exact j d s1 f i Q g e|true=>exact⟨.bl true,i,g,rfl,e⟩
theorem oB(j:PE X a ta):PE X (.UnaryOp .Not a pos) (Ie ta):=by intro d s f H Q I h;refine UnaryOp_ (am (j d s f H _ I h) λv s1 hpq=> ?_);obtain⟨x,i,g,l,e⟩:=hpq;obtain⟨c,rfl,e⟩:=e;cases l;exact not_of (L6 ⟨.bl (!c),i,g,rfl,e⟩)
def tIf(t:TT)(d e:TE):TE:=λσ H Q=>t σ H λc H1=>if c=true then d σ H1 Q else e σ H1 Q
theorem zV(l:PT X c tA)(n:PE X a ta)(m:PE X b tb):PE X (.IfExp c a b pos) (tIf tA ta tb):=by
 intro e s f H Q I h;refine wpAny_IfExp (am (l e s f H _ I h) λd s1 hpq=> ?_);obtain⟨j,i,g⟩:=hpq;cases d with
 |true=>exact n e s1 f j Q i g|false=>exact m e s1 f j Q i g
end
def bJ(K:W.Frag)(H:Hp)(a:Addr)(c:List V):Prop :=
 Rd H a (.lst c) \/ ∃(o:Obj)(b:Array Value)(n:Nat),K.lookup a=some o/\o.cls=.type "list"/\o.dict=none/\o.data=.seq b n/\b.size<=sizeLine/\aN c b.toList
def cU(K:W.Frag)(H:Hp)(a:Addr)(c:List V):Prop :=
 Rd H a (.tup c) \/ ∃(o:Obj)(b:Array Value)(n:Nat),K.lookup a=some o/\o.cls=.type "tuple"/\o.dict=none/\o.data=.seq b n/\b.size<=sizeLine/\aN c b.toList
def absV:Value->Option V
 | .none=>some .non| .bool b=>some (.bl b)| .int i _=>some (.int i)| .str x _=>some (.str x)| .bytes b _=>some (.byt b)| .float b _=>some (.flt b)| .ref a=>some (.ref a)| .type n=>some (.ty n)|_=>none
theorem RelV.abs(r:RelV x u):absV u=some x:=by
 cases x with
 |non=>cases r;rfl|bl _=>cases r;rfl|int _=>obtain⟨t,rfl⟩:=r;rfl
 |str _=>obtain⟨t,rfl⟩:=r;rfl
 |byt _=>obtain⟨t,rfl⟩:=r;rfl
 |flt _=>obtain⟨t,rfl⟩:=r;rfl
 |ref _=>cases r;rfl|ty _=>cases r;rfl
theorem RelV.inj(r:RelV x u)(q:RelV y u):x=y:=LR (r.abs.symm.trans q.abs)
theorem aN.inj{us:List Value}(h:aN b us)(k:aN a us):b=a:=by
 induction h generalizing a with
 |nil=>cases k;rfl|cons r t e =>
  cases k with
  |cons d c =>rw[r.inj d,e c]
section
variable{X:Cx}{pins:List (Addr×Obj)}{σ:St}{H:Hp}{s:Shared}{a:Addr}{xs ys:List V}
theorem bJ.of{K:W.Frag}(h:H a=some (.lst xs)):bJ K H a xs:=.inl (.inl h)
theorem cU.of{K:W.Frag}(h:H a=some (.tup xs)):cU K H a xs:=.inl (.inl h)
theorem Inv.list(I:Inv X pins σ H s)(h:bJ X.K H a xs):∃b:List Value,aN xs b/\PlainL s.heap a b.toArray/\xs.length<=sizeLine:=by
 rcases h with h|⟨o,b,n,g,f,d,c,i,r⟩
 ·obtain⟨z,b,n,r,e⟩:=h.ok I.hok
  exact⟨b,r,⟨_,n,e,rfl,rfl,rfl⟩,z⟩
 ·refine⟨b.toList,r,⟨o,n,I.kIn a o g,f,d,by simpa using c⟩,?_⟩
  have e:=r.length;simp only[LZ]at e;omega
theorem Inv.tuple(I:Inv X pins σ H s)(h:cU X.K H a xs):∃b:List Value,aN xs b/\IsTup s.heap a b.toArray/\xs.length<=sizeLine:=by
 rcases h with h|⟨o,b,n,f,d,_,c,g,r⟩
 ·obtain⟨z,b,r,p⟩:=h.ok I.hok
  exact⟨b,r,p.tup,z⟩
 ·refine⟨b.toList,r,⟨o,I.kIn a o f,d,n,by simpa using c⟩,?_⟩
  have e:=r.length;simp only[LZ]at e;omega
theorem Inv.tupleD(I:Inv X pins σ H s)(h:cU X.K H a xs):∃o,s.heap.get? a=some o/\o.cls=.type "tuple"/\o.dict=none:=by
 rcases h with h|⟨o,b,n,i,g,f,_⟩
 ·obtain⟨z,b,r,o,e,c,n,_,d⟩:=h.ok I.hok
  exact⟨o,e,c,d⟩
 ·exact⟨o,I.kIn a o i,g,f⟩
theorem Inv.list_inj(I:Inv X pins σ H s)(h:bJ X.K H a xs)(i :bJ X.K H a ys):xs=ys:=by
 obtain⟨c,r,⟨o,n,e,_,_,d⟩,_⟩:=I.list h;obtain⟨b,j,⟨l,m,f,_,_,g⟩,_⟩:=I.list i;rw[e]at f;cases f;rw[d]at g
 injection g with d1 _
 have:c=b :=by simpa using L5 Array.toList d1
 subst this;exact r.inj j
theorem Inv.tuple_inj(I:Inv X pins σ H s)(h:cU X.K H a xs)(i :cU X.K H a ys):xs=ys:=by
 obtain⟨c,r,⟨o,e,_,n,d⟩,_⟩:=I.tuple h;obtain⟨b,j,⟨l,f,_,m,g⟩,_⟩:=I.tuple i;rw[e]at f;cases f;rw[d]at g
 injection g with d1 _
 have:c=b :=by simpa using L5 Array.toList d1
 subst this;exact r.inj j
end
abbrev Cx.wish(X:Cx)(E:Value->Shared->Prop):Cx:={X with xe:=E}
abbrev Cx.nox(X:Cx):Cx:=X.wish λ_ _=>False
theorem Cx.Ok.wish{X:Cx}(a:X.Ok)(E:Value->Shared->Prop):(X.wish E).Ok := ⟨a.mod,a.kind,a.glob,a.blt,a.above,a.inj,a.has,a.cab,a.hd,a.frames,a.stk,a.exf,a.bs,a.bsz,a.noex,a.exfs,a.funs,a.frf⟩
theorem Cx.Ok.unwish{X:Cx}(a:(X.wish E).Ok):X.Ok := ⟨a.mod,a.kind,a.glob,a.blt,a.above,a.inj,a.has,a.cab,a.hd,a.frames,a.stk,a.exf,a.bs,a.bsz,a.noex,a.exfs,a.funs,a.frf⟩
section
variable{X:Cx}{pins:List (Addr×Obj)}{σ:St}{H:Hp}{s:Shared}{E:Value->Shared->Prop}
theorem Inv.wish(I:Inv X pins σ H s)(E:Value->Shared->Prop):Inv (X.wish E) pins σ H s:=⟨I.ok.wish E,I.os,I.bare,I.base,I.loc,I.cell,I.free,I.freeC,I.pin,I.hok,I.len⟩
theorem Inv.unwish(I:Inv (X.wish E) pins σ H s):Inv X pins σ H s:=⟨I.ok.unwish,I.os,I.bare,I.base,I.loc,I.cell,I.free,I.freeC,I.pin,I.hok,I.len⟩
theorem SP.unwish(h:SP (X.wish E) pins D f c):SP X pins D f c :=by
 cases f with
 |next=>obtain⟨a,b,I,q⟩:=h;exact⟨a,b,I.unwish,q⟩
 |brk=>obtain⟨a,b,I,q⟩:=h;exact⟨a,b,I.unwish,q⟩
 |cont=>obtain⟨a,b,I,q⟩:=h;exact⟨a,b,I.unwish,q⟩
 |ret u=>obtain⟨v,a,b,I,r,q⟩:=h;exact⟨v,a,b,I.unwish,r,q⟩
theorem pB.nox{t:TS}(h:pB X.nox a t):pB X a t:=λpins s σ H D I hw =>
 MF (h pins s σ H D (I.wish _) hw) (λ_ _ q=>q.unwish) λ_ _ z=>False.elim z
end
section
variable{X:Cx}{st:Stmt}{aa:List Stmt}{t u:TS}{e:Expr}{te:TE}{pos:Pos}
def EL:TS:=λD σ H=>D.nx σ H
def tSeq(t u:TS):TS:=λD σ H=>t {D with nx:=u D} σ H
theorem bF:pB X [] EL:=λ_ _ σ H _ I h=>Ny ⟨σ,H,I,h⟩
theorem aF(l:PS X i t)(c:pB X aa u):pB X (i::aa) (tSeq t u):=by
 intro a s d H D I h;refine wpAny_execs_cons (am (l a s d H {D with nx:=u D} I h) λf s1 q=> ?_);cases f with
 |next =>obtain⟨b,g,j,q⟩:=q;exact c a s1 b g D j q
 |ret v=>exact q|brk=>exact q|cont=>exact q
theorem aO(c:PS X st t):pB X [st] t:=by
 intro a s b H D I h;refine wpAny_execs_cons (am (c a s b H D I h) λf s1 q=> ?_);cases f with
 |next=>exact Ny q|ret v=>exact q|brk=>exact q|cont=>exact q
def FM:TS:=λD σ H=>D.bk σ H
def Ik:TS:=λD σ H=>D.ct σ H
theorem Cc:PS X (.Pass pos) EL:=λ_ _ σ H _ I h=>wpAny_Pass ⟨σ,H,I,h⟩
theorem zM:PS X (.Break pos) FM:=λ_ _ σ H _ I h=>wpAny_Break ⟨σ,H,I,h⟩
theorem qK:PS X (.Continue pos) Ik:=λ_ _ σ H _ I h=>wpAny_Continue ⟨σ,H,I,h⟩
theorem Inv.quiet{s:Shared}(I:Inv X a b H s):interactive X.env=false:=by simp[interactive,I.ok.kind]
def Ih(a:TE):TS:=λD σ H=>a σ H λ_ H1=>D.nx σ H1
theorem eP(d:PE X e te)(c:swapsWith e none pos.line X.env=pure false:=by rfl):PS X (.Expr e pos) (Ih te):=by intro a s b H D I h;exact wpAny_Expr_any (am (d a s b H _ I h) λv s1 ⟨x,H1,I1,r1,q1⟩=>⟨b,H1,I1,q1⟩) I.quiet c
def tRet(a:TE):TS:=λD σ H=>a σ H D.rt
theorem bc(c:PE X e te):PS X (.Return (some e) pos) (tRet te):=by intro a s b H D I h;exact wpAny_Return_some (am (c a s b H _ I h) λv s1 ⟨x,H1,I1,r1,q1⟩=>⟨x,b,H1,I1,r1,q1⟩)
def Ib:TS:=λD _ H=>D.rt .non H
theorem Cb:PS X (.Return none pos) Ib:=λ_ _ σ H _ I h=>wpAny_Return_none ⟨.non,σ,H,I,rfl,h⟩
def tIfS(c:TT)(t u:TS):TS:=λD σ H=>c σ H λb H1=>if b=true then t D σ H1 else u D σ H1
theorem gW(n:PT X c l)(p:pB X a t)(o:pB X b u):PS X (.If c a b pos) (tIfS l t u):=by
 intro f s g H D I h;refine wpAny_If (am (n f s g H _ I h) λd s1 hpq=> ?_);obtain⟨m,j,i⟩:=hpq;cases d with
 |true=>exact p f s1 g m D j i|false=>exact o f s1 g m D j i
end
abbrev TG:=V->St->Hp->(St->Hp->Prop)->Prop
abbrev Hn:=List V->St->Hp->(St->Hp->Prop)->Prop
def PG(X:Cx)(a:Expr)(t:TG):Prop :=
 ∀(b:List (Addr×Obj))(s:Shared)(d:St)(H:Hp)(v:V)(u:Value)(Q:St->Hp->Prop),Inv X b d H s->RelV v u->t v d H Q -> wpAny (model X.prog X.w) X.A (assign a X.env u) (λ_ s' =>∃c e,Inv X b c e s' /\Q c e) X.xe s
def Kh(X:Cx)(f:List Expr)(t:Hn):Prop :=
 ∀(a:List (Addr×Obj))(s:Shared)(c:St)(H:Hp)(d:List V)(us:List Value)(Q:St->Hp->Prop),Inv X a c H s->aN d us->t d c H Q -> wpAny (model X.prog X.w) X.A (assignInOrder ((assignEach f X.env).map (·.2)) us) (λ_ s' =>∃b e,Inv X a b e s' /\Q b e) X.xe s
abbrev Hm:=V->V->V->Hp->(Hp->Prop)->Prop
def Kg(X:Cx)(t:Hm):Prop :=
 ∀(a:List (Addr×Obj))(s:Shared)(b:St)(H:Hp)(o i v:V)(e d u:Value)(Q:Hp->Prop),Inv X a b H s->RelV o e->RelV i d->RelV v u->t o i v H Q -> wpAny (model X.prog X.w) X.A (setItem e d u) (λ_ s' =>∃c,Inv X a b c s' /\Q c) X.xe s
abbrev TIp:=V->V->Hp->VK->Prop
def PIp(X:Cx)(c:Operator)(t:TIp):Prop :=
 ∀(a:List (Addr×Obj))(s:Shared)(b:St)(H:Hp)(x y:V)(v u:Value)(Q:VK),Inv X a b H s->RelV x v->RelV y u->t x y H Q -> wpAny (model X.prog X.w) X.A (inplaceOp c v u) (EP X a b Q) X.xe s
section
variable{X:Cx}{pos:Pos}
def mr(i:Nat):TG:=λv σ H Q=>Q (σ.set i (some v)) H
theorem av{i:Nat}(c:X.N.Nodup)(b:X.N[i]? =some x)(e:Loc X.env.scope x)(d:X.fn x=true\/X.env.scope.names.lookup x=some .local:=by first|exact .inl rfl|exact .inr rfl|assumption):PG X (.Name x pos) (mr i):=by intro a s f H v u Q I r h;exact wpAny_assign_Name (fH I c b e r (λs' I' =>⟨_,H,I',h⟩) d)
def gNil:Hn:=λvs σ H Q=>vs=[]/\Q σ H
def Jp(t:TG)(u:Hn):Hn:=λvs σ H Q=>∃v r,vs=v::r/\t v σ H λσ' H' =>u r σ' H' Q
theorem iS:Kh X [] gNil:=by intro a s b H c us Q I r h;obtain⟨e,h⟩:=h;subst e;cases r;exact assignInOrder_nil ⟨b,H,I,h⟩
theorem bq{t:TG}(o:PG X e t)(d:Kh X b u)
  (j:(assignEach (e::b) X.env).map (·.2)=assign e X.env::(assignEach b X.env).map (·.2):=by rfl):Kh X (e::b) (Jp t u):=by
 intro a s f H p us Q I r h;obtain⟨v,q,m,h⟩:=h;subst m;cases r with
 |cons r g =>rw[j];refine assignInOrder_cons (am (o a s f H _ _ _ I r h) λ_ s1 hpq=> ?_);obtain⟨c,l,n,i⟩:=hpq;exact d a s1 c l _ _ Q n g i
def gTup(K:W.Frag)(n:Nat)(t:Hn):TG:=λv σ H Q=>∃a b,v=.ref a/\cU K H a b/\b.length=n/\t b σ H Q
theorem kq{k:Nat}{t:Hn}{n:Nat}(l:X.calm=true)(h:Kh X d t)
  (A:(assignEach d X.env).length=n:=by rfl) (f:(assignEach d X.env).findIdx? (·.1)=none:=by rfl):PG X (.Tuple d k pos) (gTup X.K n t):=by
 intro c s i H v u Q I r g;obtain⟨a,y,m,w,x,g⟩:=g;subst m;cases r;obtain⟨q,j,z,C⟩:=I.tuple w;refine assign_Tuple_tuple (I.ok.hd l) z (by simp[A,<-x,j.length]) f λh' hx=> ?_;have p:=I.kept (t' :=s.toks) λb o e=>hx b o (LV (LG e)) e;exact h c _ i H y _ Q p (by simpa using j) g
def gSub(b a:TE)(t:Hm):TG:=λv σ H Q=>b σ H λo H1=>a σ H1 λi H2=>t o i v H2 λH3=>Q σ H3
theorem F2{o i:Expr}{t:Hm}(C:PE X o d)(p:PE X i c)(j:Kg X t)
  (w:∀v,assign (.Subscript o i pos) X.env v=(do
   let ov<-holding [v] (eval o X.env)
   let iv<-holding [v,ov] (eval i X.env)
   standAt pos
   holding [v,ov,iv] (setItem ov iv v)
   release [v,ov,iv] []):=by intro _;rfl):PG X (.Subscript o i pos) (gSub d c t):=by
 intro a s b H v u Q I r h;refine Ku (MH (am (C a s b H _ I h) λov s1 hpq=> ?_));obtain⟨x,m,q,g,e⟩:=hpq;refine Ku (MH (am (p a s1 b m _ q e) λiv s2 hpq=> ?_));obtain⟨y,E,f,D,n⟩:=hpq;refine Ku (OJ (Ku (MH (am (j a s2 b E x y v ov iv u _ f g D r n) λ_ s3 hpq=> ?_))));obtain⟨l,z,A⟩:=hpq;exact wpAny_release ⟨b,l,z,A⟩
def FQ(a:TE)(g:TG):TS:=λD σ H=>a σ H λx H1=>g x σ H1 D.nx
theorem Fy(l:PE X e d)(m:PG X b g)(f:swapsWithSole [b] e pos.line X.env=pure false:=by rfl)(i:swappedStores [b] e X.env=pure none:=by rfl)
  (j:(assignEach [b] X.env).map (·.2)=[assign b X.env]:=by rfl):PS X (.Assign [b] e pos) (FQ d g):=by
 intro a s c H D I h;refine wpAny_Assign_stores (am (l a s c H _ I h) λv s1 ⟨x,H1,I1,r1,q1⟩=> ?_) f i;rw[j];exact am (m a s1 c H1 x v _ I1 r1 q1) λ_ s2 q=>q
theorem ao{i:Nat}(g:X.N.Nodup)(d:X.N[i]? =some x)(m:Loc X.env.scope x)(n:PE X e c)(f:swapsWith e (some (.Name x a)) pos.line X.env=pure false:=by rfl)(l:X.fn x=true\/X.env.scope.names.lookup x=some .local:=by first|exact .inl rfl|exact .inr rfl|assumption) :
  PS X (.Assign [.Name x a] e pos) (FQ c (mr i)):=by
 intro b s j H D I h;refine wpAny_Assign_Name (am (n b s j H _ I h) λv s1 ⟨y,H1,I1,r1,q1⟩=> ?_) f;exact fH I1 g d m r1 (λs2 I2=>⟨_,H1,I2,q1⟩) l
def tAug(i:Nat)(b:TE)(a:TIp):TS:=λD σ H=>∃x,σ[i]? =some (some x)/\b σ H λy H1=>a x y H1 λz H2=>D.nx (σ.set i (some z)) H2
theorem Fx{i:Nat}(hN:X.N.Nodup)(hi:X.N[i]? =some x)(hx:Loc X.env.scope x)(he:PE X e te)(ho:PIp X op ti)(hf:X.fn x=true\/X.env.scope.names.lookup x=some .local:=by first|exact .inl rfl|exact .inr rfl|assumption) :
  PS X (.AugAssign (.Name x pos') op e pos) (tAug i te ti):=by
 intro pins s σ H D I h;obtain⟨v,e1,h⟩:=h;obtain⟨m,hn,hl⟩:=I.loc;have Ew:IJ X.env.scope x:=by rcases hx with k|k;exact .inl k;exact .inr (.inl k)
 obtain⟨u,r,l⟩:=hl i x v hi e1 Ew;refine wpAny_AugAssign_Name ?_;have go:wpAny (model X.prog X.w) X.A (eval e X.env) (λw s₂=>wpAny (model X.prog X.w) X.A (inplaceOp op u w) (λr s₃=>wpAny (model X.prog X.w) X.A (storeName X.env x r) (λ_=>SP X pins D .next) X.xe s₃) X.xe s₂) X.xe s:=by refine am (he pins s σ H _ I h) λw s1 hpq=> ?_;obtain⟨y,H1,I1,r1,q1⟩:=hpq;refine am (ho pins s1 σ H1 v y u w _ I1 r r1 q1) λz s2 hpq=> ?_;obtain⟨zv,H2,I2,r2,q2⟩:=hpq;exact fH I2 hN hi hx r2 (λs3 I3=>⟨_,H2,I3,q2⟩) hf
 rcases l with⟨hk,hm⟩|⟨hk,c,hc,hcell⟩
 ·exact wpAny_loadName_local I.ok.kind hk hn hm go
 ·rcases hk with hk|hk
  ·exact wpAny_loadName_cell I.ok.kind hk hc hcell go
  ·rcases hx with k|k
   ·have:X.env.scope.names.lookup x=some .free:=hk
    rw[k]at this;cases this
   ·have:X.env.scope.names.lookup x=some .free:=hk
    rw[k]at this;cases this
def ipI(f:Int->Int->Int):TIp:=λx y H Q=>∃i j,x=.int i/\y=.int j/\Q (.int (f i j)) H
theorem Gf:PIp X .Add (ipI λi j=>i+j):=by intro a s f H x y v u Q I b e h;obtain⟨i,j,d,c,q⟩:=h;subst d;subst c;obtain⟨t,rfl⟩:=b;obtain⟨g,rfl⟩:=e;exact iadd_int ⟨.int _,H,I.tok _,⟨_,rfl⟩,q⟩
theorem Ge:PIp X .Sub (ipI λi j=>i-j):=by intro a s f H x y v u Q I b e h;obtain⟨i,j,d,c,q⟩:=h;subst d;subst c;obtain⟨t,rfl⟩:=b;obtain⟨g,rfl⟩:=e;exact isub_int ⟨.int _,H,I.tok _,⟨_,rfl⟩,q⟩
def FE(c:TT)(g:TS):TS:=λD a H=>∃W:Nat->St->Hp->Prop,(∃m,W m a H)/\∀m a H,W m a H -> c a H λb H1=>if b=true then∃N:St->Hp->Prop,(∀d e,N d e ->∃f,f <m/\W f d e)/\g {D with nx:=N,ct:=N,bk:=D.nx} a H1 else D.nx a H1
theorem zJ{body:List Stmt}(J:PassesOwn (model X.prog X.w) X.A X.env X.xe)(M:PT X c y)(U:pB X body E):PS X (.While c body [] pos) (FE y E):=by
 intro a s L H D I h;obtain⟨W,⟨T,S⟩,j⟩:=h;refine wpAny_While (codeAny_whileLoop (λn s' =>∃g u,Inv X a g u s' /\W n g u) ?_ T ⟨L,H,I,S⟩);rintro n O ⟨e,z,R,Q⟩;refine M3 J (am (M a O e z _ R (j n e z Q)) λb s2 hpq=> ?_);obtain⟨K,x,l⟩:=hpq;cases b with
 |true =>
  obtain⟨N,C,l⟩:=l;refine M3 J (am (U a s2 e K _ x l) λf s3 q3=> ?_);cases f with
  |next =>obtain⟨d,i,p,m⟩:=q3;obtain⟨q,o,r⟩:=C d i m;exact⟨q,o,d,i,p,r⟩
  |cont =>obtain⟨d,i,p,m⟩:=q3;obtain⟨q,o,r⟩:=C d i m;exact⟨q,o,d,i,p,r⟩
  |brk=>exact q3|ret v=>exact q3
 |false =>exact Ny ⟨e,K,x,l⟩
end
structure It where
 go:Nat->Hp->Prop
 yld:Nat->Hp->V->Hp->Prop
 stop:Nat->Hp->Prop
def jl(X:Cx)(a:List (Addr×Obj))(H:Hp)(b:Addr):Prop :=
 H b=none/\b≠X.env.locals/\b∉X.fs/\(b∈X.ex\/X.s₀.heap.objs.size<=b)/\(∀x c,X.env.cells.lookup x=some c->c≠b)/\∀p∈X.pn++a,p.1≠b
theorem Inv.fpOk{s:Shared}(I:Inv X a g H s)(d:s.heap.objs.size<=b)(h:f b=none):jl X a f b:=by
 refine⟨h,NB (La I.lt d),I.nofs d,.inr (LM I.sz d),λx c e z=> ?_,λp hp z=> ?_⟩
 ·obtain⟨v,q⟩:=I.cell x c e
  exact absurd (La q.lt (by rw[z];exact d)) (MQ _)
 ·exact absurd (La (LG (I.pin p hp).1) (by rw[z];exact d)) (MQ _)
structure uX(P:Program)(w:World)(K:W.Frag)(tg:Expr)(J:It)(fp:List Addr)(it:Addr)(tn:Nat->Heap->Prop):Prop where
 mem:it∈fp
 obj:∀i h,tn i h->∀b∈fp,∃o,h.get? b=some o/\∀v,o.data≠.cell v
 keep:∀i h h',tn i h->(∀b∈fp,∀o,h.get? b=some o->h'.get? b=some o)->tn i h'
 item:∀(X:Cx),X.prog=P->X.w=w->X.K=K->X.calm=true->∀(i:Nat)(pins:List (Addr×Obj))(s:Shared)(σ:St)(H:Hp)(E:Value->Shared->Prop),Inv X pins σ H s->(∀b∈fp,jl X pins H b)->tn i s.heap->J.go i H ->
  wpAny (model P w) X.A (pyNext (.ref it)) (fun r s1=>∃u,r=some u /\
   wpAny (model P w) X.A (letOwnedTupleGo tg (.ref it) u) (fun _ s2=>∃x H',Inv X pins σ H' s2/\RelV x u/\J.yld i H x H' /\tn (i+1) s2.heap/\∀b∈fp,H' b=none) E s1) E s
 done:∀(X:Cx),X.prog=P->X.w=w->X.K=K->X.calm=true->∀(i:Nat)(pins:List (Addr×Obj))(s:Shared)(σ:St)(H:Hp)(E:Value->Shared->Prop),Inv X pins σ H s->(∀b∈fp,jl X pins H b)->tn i s.heap->J.stop i H ->
  wpAny (model P w) X.A (pyNext (.ref it)) (fun r s1=>r=none/\Inv X pins σ H s1) E s
 self:∀(A:Around)(i:Nat)(s:Shared)(Q:Value->Shared->Prop)(E:Value->Shared->Prop),tn i s.heap->Q (.ref it) s->wpAny (model P w) A (pyIter (.ref it)) Q E s
abbrev TI:=St->Hp->(It->Hp->Prop)->Prop
def PIE(X:Cx)(a:List (Addr×Obj))(i:St)(j:Expr)(R:It->Hp->Prop)(d:Value)(h:Shared):Prop :=
 ∃(g:Addr)(e:List Addr)(f:Nat->Heap->Prop)(J:It)(c :Hp),d=.ref g/\Inv X a i c h/\uX X.prog X.w X.K j J e g f/\f 0 h.heap/\(∀b∈e,jl X a c b)/\R J c
def PI(X:Cx)(d b:Expr)(e:TI):Prop :=
 ∀(a:List (Addr×Obj))(s:Shared)(c:St)(H:Hp)(R:It->Hp->Prop),Inv X a c H s->e c H R -> wpAny (model X.prog X.w) X.A (eval b X.env) (λv s1=>wpAny (model X.prog X.w) X.A (pyIter v) (PIE X a c d R) X.xe s1) X.xe s
theorem vZ{A:Around}{s:Shared}{o:Obj}{n:String}(ho:s.heap.get? it=some o)(hc:o.cls=.type n)(hd:o.data=.fields vs)
    (hn:["enumerate","zip","dict_itemiterator","dict_reverseitemiterator","odict_iterator","itertools.zip_longest","itertools.pairwise"].contains n=false) (hQ:Q () s):wpAny M A (letOwnedTupleGo tg (.ref it) u) Q E s:=by
  cases tg<;>first
    | exact LS hQ
    | (cases u<;>first
        | exact LS hQ
        | (refine Ku (wpAny_load ho ?_)
           rw[hc,hd];show wpAny M A (if(["enumerate","zip","dict_itemiterator","dict_reverseitemiterator","odict_iterator","itertools.zip_longest","itertools.pairwise"].contains n&&vs[0]? ==some (rawInt _))=true then _ else _) Q E s;rw[LC (by intro h;rw[hn,Nx]at h;cases h)];exact LS hQ))
def IA(K:W.Frag)(a:Addr):It :=
 ⟨λi H=>∃b x,bJ K H a b/\b[i]? =some x,λi H x H' =>H' =H/\∀b,bJ K H a b->b[i]? =some x,λi H=>∃b,bJ K H a b/\b.length<=i⟩
def Itt(K:W.Frag)(a:Addr):It :=
 ⟨λi H=>∃b x,cU K H a b/\b[i]? =some x,λi H x H' =>H' =H/\∀b,cU K H a b->b[i]? =some x,λi H=>∃b,cU K H a b/\b.length<=i⟩
def Em(a:Int)(n:Nat):It:=⟨λi _=>i<n,λi H x H' =>H' =H/\x=.int (a+i),λi _=>n<=i⟩
theorem wJ{P:Program}{w:World}{K:W.Frag}{T:Expr}(a j:Addr):uX P w K T (IA K a) [j] j (λi h=>h.IsListIter j a i) where
 mem:=by simp
 obj:=λi h f b hb=>by
  have e:b=j:=by simpa using hb
  subst e;obtain⟨o,e,c,d⟩:=f;exact⟨o,e,λv z=>by rw[d]at z;cases z⟩
 keep:=λi h h' f k=>f.at λo e=>k j (by simp) o e
 item:=by intro X q N n Q i g s O H E I l f M;subst q N n;obtain⟨Z,x,m,y⟩:=M;obtain⟨L,C,p,hz⟩:=I.list m;obtain⟨u,S,U⟩:=C.get y;obtain⟨v,A,R,D,r,J⟩:=l j (by simp);refine wpAny_pyNext_list_item f p.isList (by simpa using S) λh' st' sb=> ?_;have Y:=I.turned (t' :=s.toks) (λb o hb e=>(sb.2 b hb).trans e) v A D r J;obtain⟨o,e,c,d⟩:=id st';exact⟨u,rfl,vZ e c d (by decide) ⟨x,H,Y,U,⟨rfl,λys hy=>by rw[I.list_inj hy m];exact y⟩,st',λb hb=>(l b hb).1⟩⟩
 done:=by intro X q N n Q i g s O H E I l f M;subst q N n;obtain⟨Z,m,y⟩:=M;obtain⟨L,C,p,hz⟩:=I.list m;obtain⟨v,A,R,D,r,J⟩:=l j (by simp);have hl:=C.length;exact wpAny_pyNext_list_end (I.ok.hd Q) f p.isList (by simp;omega) λh' eb=>⟨rfl,I.turned (λb o hb e=>eb b o hb e) v A D r J⟩
 self:=λ_ _ _ _ _ f h=>wpAny_pyIter_listiter f h
theorem sU{P:Program}{w:World}{K:W.Frag}{T:Expr}(a j:Addr):uX P w K T (Itt K a) [j] j (λi h=>h.IsTupleIter j a i) where
 mem:=by simp
 obj:=λi h f b hb=>by
  have e:b=j:=by simpa using hb
  subst e;obtain⟨o,e,c,d⟩:=f;exact⟨o,e,λv z=>by rw[d]at z;cases z⟩
 keep:=λi h h' f k=>f.at λo e=>k j (by simp) o e
 item:=by intro X r N q Q i g s O H E I m f M;subst r N q;obtain⟨Z,x,n,A⟩:=M;obtain⟨l,D,p,hz⟩:=I.tuple n;obtain⟨u,S,U⟩:=D.get A;obtain⟨y,C,R,J,v,L⟩:=m j (by simp);refine wpAny_pyNext_tuple_item f (show s.heap.IsTuple a l.toArray from p) (by simpa using S) λh' st' sb=> ?_;have Y:=I.turned (t' :=s.toks) (λb o hb e=>(sb.2 b hb).trans e) y C J v L;obtain⟨o,e,c,d⟩:=id st';exact⟨u,rfl,vZ e c d (by decide) ⟨x,H,Y,U,⟨rfl,λys hy=>by rw[I.tuple_inj hy n];exact A⟩,st',λb hb=>(m b hb).1⟩⟩
 done:=by intro X r N q Q i g s O H E I m f M;subst r N q;obtain⟨Z,n,A⟩:=M;obtain⟨l,D,p,hz⟩:=I.tuple n;obtain⟨y,C,R,J,v,L⟩:=m j (by simp);have hl:=D.length;exact wpAny_pyNext_tuple_end (I.ok.hd Q) f (show s.heap.IsTuple a l.toArray from p) (by simp;omega) λh' eb=>⟨rfl,I.turned (λb o hb e=>eb b o hb e) y C J v L⟩
 self:=λ_ _ _ _ _ f h=>wpAny_pyIter_tupleiter f h
theorem sW{P:Program}{w:World}{K:PySem.W.Frag}{L:Expr}(d:Addr)(g:Int)(n:Nat):uX P w K L (Em g n) [d] d (λi h=>IsRangeIter h d (g+(i:Nat)*1) ((n:Int)-(i:Nat)) 1) where
 mem:=by simp
 obj:=λi h a b hb=>by
  have e:b=d:=by simpa using hb
  subst e;exact⟨_,a,λv z=>by have D :=z;cases D⟩
 keep:=λi h h' a k=>k d (by simp) _ a
 item:=by intro X m A j l i c s C H E I f a y;subst m A j;obtain⟨q,r,J,u,p,x⟩:=f d (by simp);have W:=Walks.range (prog:=X.prog) (w:=X.w) (I.ok.hd l) d g 1 n;refine W.item i s _ _ y a λv h' tk hv st' kk=> ?_;obtain⟨t,rfl⟩:=hv;have M:Inv X c C H {s with heap:=h',toks:=tk}:=I.turned (λb o hb e=>kk b o (by simpa using hb) e) q r u p x;refine⟨_,rfl,vZ st' rfl rfl (by decide) ⟨.int (g+i),H,M,⟨t,?_⟩,⟨rfl,rfl⟩,st',λb hb=>(f b hb).1⟩⟩;rw[Int.mul_one]
 done:=by intro X m A j l i c s C H E I f a y;obtain⟨q,r,J,u,p,x⟩:=f d (by simp);exact wpAny_pyNext_range_end (I.ok.hd l) a (by have:n<=i:=y;omega) λh' eb=>⟨rfl,I.turned (λb o hb e=>eb b o hb e) q r u p x⟩
 self:=λ_ _ _ _ _ a h=>wpAny_pyIter_rangeiter a h
section
variable{X:Cx}{tg:Expr}
def Jn(K:W.Frag)(b:TE):TI:=λσ H R=>b σ H λx H1=>∃a,x=.ref a/\(∃c,bJ K H1 a c)/\R (IA K a) H1
def iTup(K:W.Frag)(b:TE):TI:=λσ H R=>b σ H λx H1=>∃a,x=.ref a/\(∃c,cU K H1 a c)/\R (Itt K a) H1
theorem fg(u:PE X l f):PI X tg l (Jn X.K f):=by
 intro c s g H R I h;refine am (u c s g H _ I h) λv s1 hpq=> ?_;obtain⟨x,m,d,j,i⟩:=hpq;obtain⟨a,e,⟨w,r⟩,q⟩:=i;subst e;cases j;obtain⟨n,v,p,y⟩:=d.list r;refine wpAny_pyIter_list p.isList ?_;refine⟨s1.heap.objs.size,[s1.heap.objs.size],_,_,m,rfl,d.kept λb o e=>Ks _ e,wJ a _,⟨_,LO _ rfl,rfl,rfl⟩,λb hb=> ?_,q⟩;have e:b=s1.heap.objs.size:=by simpa using hb
 subst e;exact d.fpOk (Ky _) (d.hok.fresh (Ky _))
theorem zR(u:PE X l g):PI X tg l (iTup X.K g):=by
 intro c s i H R I h;refine am (u c s i H _ I h) λv s1 hpq=> ?_;obtain⟨x,n,d,m,j⟩:=hpq;obtain⟨a,e,⟨w,r⟩,q⟩:=j;subst e;cases m;obtain⟨f,v,p,y⟩:=d.tuple r;refine OC (show s1.heap.IsTuple a f.toArray from p) ?_;refine⟨s1.heap.objs.size,[s1.heap.objs.size],_,_,n,rfl,d.kept λb o e=>Ks _ e,sU a _,⟨_,LO _ rfl,rfl,rfl⟩,λb hb=> ?_,q⟩;have e:b=s1.heap.objs.size:=by simpa using hb
 subst e;exact d.fpOk (Ky _) (d.hok.fresh (Ky _))
theorem qG{s:Shared}{t v:Tok}(I:Inv X d f H s)(p: -(2^62)<=a)(i:a<2^62)(n: -(2^62)<=c)(l:c<2^62)
  (q:R (Em a (c-a).toNat) H):wpAny (model X.prog X.w) X.A (pyIter (.ref s.heap.objs.size)) (PIE X d f tg R) E {s with heap:=s.heap.push {cls:=.type "range",data:=.fields #[.int a t,.int c u,.int 1 v]},toks:=g}:=by
 refine wpAny_pyIter_range (IsRange.new ..) (small_one p i n l) ?_;have h:Inv X d f H {s with heap:=s.heap.push {cls:=.type "range",data:=.fields #[.int a t,.int c u,.int 1 v]},toks:=g}:=I.kept λb o e=>Ks _ e
 refine⟨(s.heap.push {cls:=.type "range",data:=.fields #[.int a t,.int c u,.int 1 v]}).objs.size,[(s.heap.push {cls:=.type "range",data:=.fields #[.int a t,.int c u,.int 1 v]}).objs.size],_,_,H,rfl,h.kept λb o e=>Ks _ e,sW _ a (c-a).toNat,?_,λb hb=> ?_,q⟩
 ·have m:a+((0:Nat):Int)*1=a:=by simp
  have j:(((c-a).toNat:Nat):Int)-((0:Nat):Int)=Builtin.Range.rangeSize a c 1:=by rw[rangeSize_one];split<;>omega
  rw[m,j];exact LO _ rfl
 ·have e:b=(s.heap.push {cls:=.type "range",data:=.fields #[.int a t,.int c u,.int 1 v]}).objs.size:=by simpa using hb
  subst e;exact h.fpOk (Ky _) (h.hok.fresh (Ky _))
def Jm(a:TA):TI:=λσ H R=>a σ H λvs H1=>∃j:Int,vs=[.int j]/\ -(2^62)<=j/\j<2^62/\R (Em 0 j.toNat) H1
def Jl(a:TA):TI:=λσ H R=>a σ H λvs H1=>∃i j:Int,vs=[.int i,.int j]/\(-(2^62)<=i/\i<2^62/\ -(2^62)<=j/\j<2^62)/\R (Em i (j-i).toNat) H1
theorem cD(n:Gl X "range")(o:X.mg "range"=none)(m:PA X [a] d)(i:starEach [a] X.env=[(false,eval a X.env)]:=by rfl):PI X tg (.Call (.Name "range" p) [a] [] pos) (Jm d):=by
 intro b s f H R I h;refine Call_ (eR I n o boot_range (L0 (am (m pos b s f H _ I h) λus s1 ⟨vs,H1,I1,r1,c⟩=> ?_) i rfl));obtain⟨j,e,c,l,q⟩:=c;subst e;cases r1 with
 |cons r g =>cases g;obtain⟨t,rfl⟩:=r;exact call_range_1 (qG I1 (by omega) (by omega) c l (by simpa using q))
theorem wv(x:Gl X "range")(y:X.mg "range"=none)(w:PA X [a,b] l)(u:starEach [a,b] X.env=[(false,eval a X.env),(false,eval b X.env)]:=by rfl)(d:starEach [b] X.env=[(false,eval b X.env)]:=by rfl) :
  PI X tg (.Call (.Name "range" p) [a,b] [] pos) (Jl l):=by
 intro c s m H R I h;refine Call_ (eR I x y boot_range (L0 (am (w pos c s m H _ I h) λus s1 ⟨vs,H1,I1,r1,g⟩=> ?_) (by rw[u,d]) (by rw[d];rfl)));obtain⟨i,j,e,⟨g,v,z,n⟩,q⟩:=g;subst e;cases r1 with
 |cons r f =>
  cases f with
  |cons o f =>cases f;obtain⟨t,rfl⟩:=r;obtain⟨A,rfl⟩:=o;exact call_range_2 (qG I1 g v z n q)
def tFor(f:TI)(g:TG)(e:TS):TS:=λD a H=>f a H λJ H1=>∃W:Nat->Nat->St->Hp->Prop,(∃m,W 0 m a H1)/\∀i m a H,W i m a H -> (J.stop i H/\D.nx a H)\/(J.go i H/\∃N:St->Hp->Prop,(∀c b,N c b ->∃d,d <m/\W (i+1) d c b)/\∀x b,J.yld i H x b ->g x a b λσ2 H2=>e {D with nx:=N,ct:=N,bk:=D.nx} σ2 H2)
def ko(a:List Addr)(h:Heap):List (Addr×Obj):=a.filterMap λb=>(h.get? b).map λo=>(b,o)
theorem eQ{o:Obj}(c:b∈a)(e:h.get? b=some o):(b,o)∈ko a h:=List.mem_filterMap.mpr ⟨b,c,by rw[e];rfl⟩
theorem ww(d:p∈ko a h):p.1∈a/\h.get? p.1=some p.2:=by
 obtain⟨b,f,e⟩:=List.mem_filterMap.mp d;cases q:h.get? b with
 |none=>rw[q]at e;cases e|some o =>rw[q]at e;have c :=LR e;subst c;exact⟨f,q⟩
theorem Inv.pinned{s:Shared}(I:Inv X a f H s)(j:∀b∈c,jl X a H b)(n:∀b∈c,∃o,s.heap.get? b=some o/\∀v,o.data≠.cell v):Inv X (a++ko c s.heap) f H s := I.pins_of λp hp=>(LP.mp hp).elim (λz=>I.pin p (Lb _ z)) λz=>by obtain⟨h,e⟩:=ww z;obtain⟨i,m,l,_⟩:=j p.1 h;obtain⟨o,g,d⟩:=n p.1 h;rw[e]at g;cases g;exact⟨e,i,m,l,d⟩
theorem Inv.unpinned{s:Shared}(I:Inv X (a++c) b H s):Inv X a b H s:=I.pins_of λp hp=>I.pin p (Lb _ (LQ _ hp))
theorem du{body:List Stmt}(Q:PassesOwn (model X.prog X.w) X.A X.env X.xe)(hc:X.calm=true)(hi:PI X tg z wi)(hg:PG X tg g)(l:pB X body tb)
  (hs:∀x,foldedSetIterable z X.env x=pure x:=by intro _;rfl):PS X (.For tg z body [] pos) (tFor wi g tb):=by
 intro c s σ H D I h;refine wpAny_For (am (hi c s σ H _ I h) λv s1 h1=>am h1 λitv s2 h2=> ?_) hs;obtain⟨it,U,tn,J,H2,e,I2,T,a3,f2,W,⟨m0,w0⟩,Y⟩:=h2;subst e;have j:∀{E :Hp},(∀b∈U,E b=none)->∀b∈U,jl X c E b:=λhn b l=>⟨hn b l,(f2 b l).2⟩;refine codeAny_forLoop_any (λn s' =>∃i C E,Inv X c C E s' /\tn i s'.heap/\(∀b∈U,E b=none)/\W i n C E) ?_ m0 ⟨0,σ,H2,I2,a3,λb l=>(f2 b l).1,w0⟩;rintro n s3 ⟨i,q,H3,I3,M,Z,w3⟩
 rcases Y i n q H3 w3 with⟨S,qn⟩|⟨go,N,hN,O⟩
 ·refine M3 Q (am (T.done X rfl rfl rfl hc i c s3 q H3 X.xe I3 (j Z) M S) λr s4 hpq=> ?_)
  obtain⟨hr,I4⟩:=hpq;subst hr;exact Ny ⟨q,H3,I4,qn⟩
 ·refine M3 Q (am (T.item X rfl rfl rfl hc i c s3 q H3 X.xe I3 (j Z) M go) λr s4 hpq=> ?_)
  obtain⟨u,hr,h4⟩:=hpq;subst hr;refine M3 Q (am h4 λ_ s5 hpq=> ?_);obtain⟨x,H5,I5,r5,y5,L,a0⟩:=hpq;have a1 :=I5.pinned (j a0) (T.obj _ _ L);refine M3 Q (am (hg _ s5 q H5 x u _ a1 r5 (O x H5 y5)) λ_ s6 hpq=> ?_);obtain⟨a2,H6,I6,q6⟩:=hpq;refine M3 Q (am (l _ s6 a2 H6 _ I6 q6) λf s7 K=> ?_);have r:∀{a:St}{p:Hp},Inv X (c++ko U s5.heap) a p s7->N a p->∃m,m<n/\∃i C E,Inv X c C E s7/\tn i s7.heap/\(∀b∈U,E b=none)/\W i m C E :=λ{a p} y R=>by obtain⟨m',hm,w7⟩:=hN a p R;refine⟨m',hm,i+1,a,p,y.unpinned,T.keep _ _ _ L λb l o e=>(y.pin (b,o) (Lb _ (Lb _ (eQ l e)))).1,λb l=> ?_,w7⟩;obtain⟨o,e,d⟩:=T.obj _ _ L b l;exact(y.pin (b,o) (Lb _ (Lb _ (eQ l e)))).2.1
  cases f with
  |next=>obtain⟨a,p,y,R⟩:=K;exact r y R
  |cont=>obtain⟨a,p,y,R⟩:=K;exact r y R
  |brk=>obtain⟨a,p,y,K⟩:=K;exact⟨a,p,y.unpinned,K⟩
  |ret v=>obtain⟨x7,a,p,y,r7,K⟩:=K;exact⟨x7,a,p,y.unpinned,r7,K⟩
end
theorem rE{K:PySem.W.Frag}{a:Addr}{xs:List V}{g:TG}{j:TS}{D:cO}{b:St}{H:Hp}(c:Nat->St->Hp->Prop)(n:c 0 b H)(s:∀i b H,i<=xs.length->c i b H->bJ K H a xs)
  (o:∀i x b H,xs[i]? =some x->c i b H->g x b H λσ2 H2=>j {D with nx:=c (i+1),ct:=c (i+1),bk:=D.nx} σ2 H2) (u:∀b H,c xs.length b H->D.nx b H) :
  ∃W:Nat->Nat->St->Hp->Prop,(∃m,W 0 m b H)/\∀i m b H,W i m b H -> ((IA K a).stop i H/\D.nx b H)\/((IA K a).go i H/\∃N:St->Hp->Prop,(∀h d,N h d ->∃l,l <m/\W (i+1) l h d)/\∀x d,(IA K a).yld i H x d ->g x b d λσ2 H2=>j {D with nx:=N,ct:=N,bk:=D.nx} σ2 H2):=by
 refine⟨λi m b H=>m=xs.length-i/\i<=xs.length/\c i b H,⟨xs.length,by simp,LY _,n⟩,?_⟩;rintro i m b H ⟨rfl,r,p⟩;have q:=s i b H r p
 by_cases f:i<xs.length
 ·refine .inr ⟨⟨xs,xs[i],q,by simp[f]⟩,c (i+1),λσ' d p' =>⟨xs.length-(i+1),by omega,rfl,f,p'⟩,λx d y=> ?_⟩
  obtain⟨e,y⟩:=y;subst e;exact o i x b _ (y xs q) p
 ·have e:i=xs.length:=by omega
  subst e;exact .inl ⟨⟨xs,q,Ky _⟩,u b H p⟩
theorem eF{lo:Int}{n:Nat}{g:TG}{h:TS}{D:cO}{a:St}{H:Hp}(d:Nat->St->Hp->Prop)(l:d 0 a H)
  (o:∀i a H,i<n->d i a H->g (.int (lo+i)) a H λσ2 H2=>h {D with nx:=d (i+1),ct:=d (i+1),bk:=D.nx} σ2 H2) (q:∀a H,d n a H->D.nx a H) :
  ∃W:Nat->Nat->St->Hp->Prop,(∃m,W 0 m a H)/\∀i m a H,W i m a H -> ((Em lo n).stop i H/\D.nx a H)\/((Em lo n).go i H/\∃N:St->Hp->Prop,(∀f b,N f b ->∃j,j <m/\W (i+1) j f b)/\∀x b,(Em lo n).yld i H x b ->g x a b λσ2 H2=>h {D with nx:=N,ct:=N,bk:=D.nx} σ2 H2):=by
 refine⟨λi m a H=>m=n-i/\i<=n/\d i a H,⟨n,by simp,LY _,l⟩,?_⟩;rintro i m a H ⟨rfl,r,p⟩
 by_cases c:i<n
 ·refine .inr ⟨c,d (i+1),λσ' b p' =>⟨n-(i+1),by omega,rfl,c,p'⟩,λx b y=> ?_⟩
  obtain⟨e,y⟩:=y;subst e y;exact o i a _ c p
 ·have e:i=n:=by omega
  subst e;exact .inl ⟨Ky _,q a H p⟩
abbrev R2:=V->V->Hp->VK->Prop
def eM(X:Cx)(f:Value->Value->Sem Value)(r:R2):Prop :=
 ∀(a:List (Addr×Obj))(s:Shared)(b:St)(H:Hp)(x y:V)(v u:Value)(Q:VK),Inv X a b H s->RelV x v->RelV y u->r x y H Q -> wpAny (model X.prog X.w) X.A (f v u) (EP X a b Q) X.xe s
def UnR(X:Cx)(f:Value->Sem Value)(r:V->Hp->VK->Prop):Prop :=
 ∀(a:List (Addr×Obj))(s:Shared)(b:St)(H:Hp)(x:V)(v:Value)(Q:VK),Inv X a b H s->RelV x v->r x H Q -> wpAny (model X.prog X.w) X.A (f v) (EP X a b Q) X.xe s
def bO(X:Cx)(f:Value)(r:List V->Hp->VK->Prop):Prop :=
 ∀(a:List (Addr×Obj))(s:Shared)(b:St)(H:Hp)(c:List V)(us:List Value)(Q:VK),Inv X a b H s->aN c us->r c H Q -> wpAny (model X.prog X.w) X.A (call f us) (EP X a b Q) X.xe s
def TruR(X:Cx)(r:V->Hp->(Bool->Hp->Prop)->Prop):Prop :=
 ∀(a:List (Addr×Obj))(s:Shared)(b:St)(H:Hp)(x:V)(v:Value)(Q:Bool->Hp->Prop),Inv X a b H s->RelV x v->r x H Q -> wpAny (model X.prog X.w) X.A (truthy v) (TP X a b Q) X.xe s
def tOp(r:R2)(a b:TE):TE:=λσ H Q=>a σ H λx H1=>b σ H1 λy H2=>r x y H2 Q
def tUn(r:V->Hp->VK->Prop)(a:TE):TE:=λσ H Q=>a σ H λx H1=>r x H1 Q
def rI(C:Int->Int->Prop)(g:Int->Int->V):R2:=λx y H Q=>∃i j,x=.int i/\y=.int j/\C i j/\Q (g i j) H
def zD(g:Int->Int->V):R2:=λx y H Q=>∃i j,x=.int i/\y=.int j/\Q (g i j) H
def rU(g:Int->V):V->Hp->VK->Prop:=λx H Q=>∃i,x=.int i/\Q (g i) H
section
variable{X:Cx}{a b c:Expr}{ta tb tc:TE}{pos:Pos}
theorem HW(r:PE X a ta)(z:PE X b tb){d:List (Addr×Obj)}{s:Shared}{e:St}{H:Hp}{R:V->V->Hp->Prop}(I:Inv X d e H s)
  (h:ta e H λx j=>tb e j λy g=>R x y g) {Q:Value->Shared->Prop} {f:Value->Value->Sem Value}
  (o:∀v u i x y g,Inv X d e g i->RelV x v->RelV y u->R x y g->wpAny (model X.prog X.w) X.A (f v u) Q X.xe i) :
  wpAny (model X.prog X.w) X.A (eval a X.env) (λv s₁=>wpAny (model X.prog X.w) X.A (eval b X.env) (λu s₂=>wpAny (model X.prog X.w) X.A (f v u) Q X.xe s₂) X.xe s₁) X.xe s:=by
 refine am (r d s e H _ I h) λv s1 hpq=> ?_;obtain⟨x,j,q,n,l⟩:=hpq;refine am (z d s1 e j _ q l) λu i hpq=> ?_;obtain⟨y,g,m,C,p⟩:=hpq;exact o v u i x y g m n C p
theorem bN(g:eM X (binaryOp e) r)(j:PE X a ta)(i:PE X b tb):PE X (.BinOp a e b pos) (tOp r ta tb):=by intro d s f H Q I h;exact wpAny_BinOp (HW j i I h λv u s2 x y H2 I2 rx ry q=>g d s2 f H2 x y v u Q I2 rx ry q)
theorem ES(g:UnR X (unaryOp f) r)(i:PE X a ta):PE X (.UnaryOp f a pos) (tUn r ta):=by intro d s e H Q I h;exact UnaryOp_ (am (i d s e H _ I h) λv s1 ⟨x,H1,I1,r1,q1⟩=>g d s1 e H1 x v Q I1 r1 q1)
theorem opI{g:Int->Int->Int}
  (d:∀(i j:Int)(t u:Tok)(s:Shared)(Q:Value->Shared->Prop)(E:Value->Shared->Prop),C i j->Q (.int (g i j) s.toks) {s with toks:=s.toks+1}->wpAny (model X.prog X.w) X.A (f (.int i t) (.int j u)) Q E s) :
  eM X f (rI C λi j=>.int (g i j)):=by
 intro e s p H x y v u Q I n o h;obtain⟨i,j,rfl,rfl,l,q⟩:=h;obtain⟨t,rfl⟩:=n;obtain⟨m,rfl⟩:=o;exact d i j t m s _ _ l ⟨.int (g i j),H,I.tok _,⟨_,rfl⟩,q⟩
theorem Cq{g:Int->Int->Int}
  (d:∀(i j:Int)(t u:Tok)(s:Shared)(Q:Value->Shared->Prop)(E:Value->Shared->Prop),Q (.int (g i j) s.toks) {s with toks:=s.toks+1}->wpAny (model X.prog X.w) X.A (f (.int i t) (.int j u)) Q E s) :
  eM X f (zD λi j=>.int (g i j)):=by
 intro e s o H x y v u Q I m n h;obtain⟨i,j,rfl,rfl,q⟩:=h;obtain⟨t,rfl⟩:=m;obtain⟨l,rfl⟩:=n;exact d i j t l s _ _ ⟨.int (g i j),H,I.tok _,⟨_,rfl⟩,q⟩
theorem Cr{g:Int->Int->Bool}
  (d:∀(i j:Int)(t u:Tok)(s:Shared)(Q:Value->Shared->Prop)(E:Value->Shared->Prop),Q (.bool (g i j)) s->wpAny (model X.prog X.w) X.A (f (.int i t) (.int j u)) Q E s) :
  eM X f (zD λi j=>.bl (g i j)):=by
 intro e s o H x y v u Q I m n h;obtain⟨i,j,rfl,rfl,q⟩:=h;obtain⟨t,rfl⟩:=m;obtain⟨l,rfl⟩:=n;exact d i j t l s _ _ ⟨.bl (g i j),H,I,rfl,q⟩
def IF(i j:Int):Prop:=(-(2^64)<i/\i<2^64)\/(-(2^64)<j/\j<2^64)
theorem IF.ok{i:Int}(h:IF i j):IntMulOk i j:=by
 rcases h with⟨e,d⟩|⟨e,d⟩
 ·exact .of_left (intBits_le_64 e d)
 ·exact .of_right (intBits_le_64 e d)
theorem gr:eM X (binaryOp .Add) (zD λi j=>.int (i+j)):=Cq λ_ _ _ _ _ _ _ q=>add_int q
theorem GA:eM X (binaryOp .Sub) (zD λi j=>.int (i-j)):=Cq λ_ _ _ _ _ _ _ q=>sub_int q
theorem GC:eM X (binaryOp .Mult) (rI IF λi j=>.int (i*j)):=opI λ_ _ _ _ _ _ _ hc q=>mul_int q hc.ok
theorem dG:eM X (binaryOp .Mod) (rI (λ_ j=>0<j) λi j=>.int (i%j)):=opI λi j _ _ _ _ _ hc q=>by have d:=hc;exact mod_int' (by omega) (by rw[Int.fmod_eq_emod_of_nonneg i (by omega)];exact q)
theorem GE:eM X (binaryOp .BitAnd) (zD λi j=>.int (Builtin.bitAnd i j)):=Cq λ_ _ _ _ _ _ _ q=>and_int q
theorem EW:eM X (binaryOp .BitOr) (zD λi j=>.int (Builtin.bitOr i j)):=Cq λ_ _ _ _ _ _ _ q=>or_int q
theorem unI{g:Int->Int}
  (d:∀(i:Int)(t:Tok)(s:Shared)(Q:Value->Shared->Prop)(E:Value->Shared->Prop),Q (.int (g i) s.toks) {s with toks:=s.toks+1}->wpAny (model X.prog X.w) X.A (f (.int i t)) Q E s) :
  UnR X f (rU λi=>.int (g i)):=by
 intro e s l H x v Q I j h;obtain⟨i,rfl,q⟩:=h;obtain⟨t,rfl⟩:=j;exact d i t s _ _ ⟨.int (g i),H,I.tok _,⟨_,rfl⟩,q⟩
theorem yF:UnR X (unaryOp .USub) (rU λi=>.int (-i)):=unI λ_ _ _ _ _ q=>neg_int q
end
def FZ:V->V->Bool
 | .non,.non=>true| .non,.int _=>true| .int _,.non=>true| .non,.bl _=>true| .bl _,.non=>true| .non,.str _=>true| .str _,.non=>true
 | .int _,.int _=>true| .bl _,.bl _=>true| .str _,.str _=>true| .byt _,.byt _=>true
 | .int _,.str _=>true| .str _,.int _=>true| .bl _,.str _=>true| .str _,.bl _=>true
 |_,_=>false
def rEq:R2:=λx y H Q=>FZ x y=true/\Q (.bl (decide (x=y))) H
def rNe:R2:=λx y H Q=>FZ x y=true/\Q (.bl (!decide (x=y))) H
theorem vi{i:Int}:decide (V.int i=V.int j)=(i==j):=by rw[L7];simp
theorem Av{i:Bool}:decide (V.bl i=V.bl j)=(i==j):=by rw[L7];simp
theorem vh{i:Str}:decide (V.str i=V.str j)=(i==j):=by rw[L7];simp
theorem vj{i:Array UInt8}:decide (V.byt i=V.byt j)=(i.toList==j.toList):=by rw[L7];cases i;cases j;simp
section
variable{X:Cx}{a b c:Expr}{ta tb tc:TE}{pos:Pos}
theorem aZ{s:Shared}{k:Bool}(I:Inv X d f H s)(q:Q (.bl k) H)(e:k=g):EP X d f Q (.bool g) s:=by subst e;exact⟨.bl k,H,I,rfl,q⟩
theorem EX:eM X (compareOp .Eq) rEq:=by
 intro l s m H x y v u Q I g d h;obtain⟨f,q⟩:=h;cases x with
 |non =>
  cases g;cases y with
  |non=>cases d;exact PySem.EqNone.eq_none_none (aZ I q (by simp))|bl j=>cases d;exact PySem.EqNone.eq_none_bool (aZ I q (by simp))|int j=>obtain⟨e,rfl⟩:=d;exact PySem.EqNone.eq_none_int (aZ I q (by simp))
  |str j=>obtain⟨e,rfl⟩:=d;exact PySem.EqNone.eq_none_str (aZ I q (by simp))
  |_=>exact absurd (show false=true from f) K0
 |bl i =>
  cases g;cases y with
  |non=>cases d;exact PySem.EqNone.eq_bool_none (aZ I q (by simp))|bl j=>cases d;exact eq_bool (aZ I q Av)|str j=>obtain⟨e,rfl⟩:=d;exact PySem.EqMixed.eq_bool_str (aZ I q (by simp))
  |_=>exact absurd (show false=true from f) K0
 |int i =>
  obtain⟨t,rfl⟩:=g;cases y with
  |non=>cases d;exact PySem.EqNone.eq_int_none (aZ I q (by simp))|int j=>obtain⟨e,rfl⟩:=d;exact eq_int (aZ I q vi)
  |str j=>obtain⟨e,rfl⟩:=d;exact PySem.EqMixed.eq_int_str (aZ I q (by simp))
  |_=>exact absurd (show false=true from f) K0
 |str i =>
  obtain⟨t,rfl⟩:=g;cases y with
  |non=>cases d;exact PySem.EqNone.eq_str_none (aZ I q (by simp))|bl j=>cases d;exact PySem.EqMixed.eq_str_bool (aZ I q (by simp))|int j=>obtain⟨e,rfl⟩:=d;exact PySem.EqMixed.eq_str_int (aZ I q (by simp))
  |str j=>obtain⟨e,rfl⟩:=d;exact eq_str (aZ I q vh)
  |_=>exact absurd (show false=true from f) K0
 |byt i =>
  obtain⟨t,rfl⟩:=g;cases y with
  |byt j=>obtain⟨e,rfl⟩:=d;exact W.eq_bytes (aZ I q vj)
  |_=>exact absurd (show false=true from f) K0
 |_=>cases y<;>exact absurd (show false=true from f) K0
theorem JT:eM X (compareOp .NotEq) rNe:=by
 intro l s m H x y v u Q I g d h;obtain⟨f,q⟩:=h;cases x with
 |non =>
  cases g;cases y with
  |non=>cases d;exact PySem.EqNone.ne_none_none (aZ I q (by simp))|bl j=>cases d;exact PySem.EqNone.ne_none_bool (aZ I q (by simp))|int j=>obtain⟨e,rfl⟩:=d;exact PySem.EqNone.ne_none_int (aZ I q (by simp))
  |str j=>obtain⟨e,rfl⟩:=d;exact PySem.EqNone.ne_none_str (aZ I q (by simp))
  |_=>exact absurd (show false=true from f) K0
 |bl i =>
  cases g;cases y with
  |non=>cases d;exact PySem.EqNone.ne_bool_none (aZ I q (by simp))|bl j=>cases d;exact ne_bool (aZ I q (L5 not Av))|str j=>obtain⟨e,rfl⟩:=d;exact PySem.EqMixed.ne_bool_str (aZ I q (by simp))
  |_=>exact absurd (show false=true from f) K0
 |int i =>
  obtain⟨t,rfl⟩:=g;cases y with
  |non=>cases d;exact PySem.EqNone.ne_int_none (aZ I q (by simp))|int j=>obtain⟨e,rfl⟩:=d;exact ne_int (aZ I q (L5 not vi))
  |str j=>obtain⟨e,rfl⟩:=d;exact PySem.EqMixed.ne_int_str (aZ I q (by simp))
  |_=>exact absurd (show false=true from f) K0
 |str i =>
  obtain⟨t,rfl⟩:=g;cases y with
  |non=>cases d;exact PySem.EqNone.ne_str_none (aZ I q (by simp))|bl j=>cases d;exact PySem.EqMixed.ne_str_bool (aZ I q (by simp))|int j=>obtain⟨e,rfl⟩:=d;exact PySem.EqMixed.ne_str_int (aZ I q (by simp))
  |str j=>obtain⟨e,rfl⟩:=d;exact ne_str (aZ I q (L5 not vh))
  |_=>exact absurd (show false=true from f) K0
 |byt i =>
  obtain⟨t,rfl⟩:=g;cases y with
  |byt j=>obtain⟨e,rfl⟩:=d;exact W.ne_bytes (aZ I q (L5 not vj))
  |_=>exact absurd (show false=true from f) K0
 |_=>cases y<;>exact absurd (show false=true from f) K0
theorem JU:eM X (compareOp .Lt) (zD λi j=>.bl (decide (i<j))):=Cr λ_ _ _ _ _ _ _ q=>lt_int q
theorem JV:eM X (compareOp .LtE) (zD λi j=>.bl (decide (i<=j))):=Cr λ_ _ _ _ _ _ _ q=>le_int q
theorem JW:eM X (compareOp .Gt) (zD λi j=>.bl (decide (j<i))):=Cr λ_ _ _ _ _ _ _ q=>gt_int q
theorem JX:eM X (compareOp .GtE) (zD λi j=>.bl (decide (j<=i))):=Cr λ_ _ _ _ _ _ _ q=>ge_int q
theorem zf:eM X (compareOp .Is) (λx y H Q=>y=.non/\Q (.bl (decide (x=.non))) H):=by
 intro d s g H x y v u Q I e f h;obtain⟨rfl,q⟩:=h;cases f;refine is_none_gen (aZ I q ?_)
 cases x<;>first
  |(cases e;rfl)
  |(obtain⟨t,rfl⟩:=e;rfl)
theorem vI:eM X (compareOp .IsNot) (λx y H Q=>y=.non/\Q (.bl (!decide (x=.non))) H):=by
 intro d s g H x y v u Q I e f h;obtain⟨rfl,q⟩:=h;cases f;refine isnot_none_gen (aZ I q ?_)
 cases x<;>first
  |(cases e;rfl)
  |(obtain⟨t,rfl⟩:=e;rfl)
def isObj:HO->Bool
 | .lst _=>true| .ins _ _ _=>true|_=>false
theorem tU(b:Expr)(h:d≠.In:=by decide)(e:d≠.NotIn:=by decide):behindInMarks d b=false:=by
 have g:(d==CmpOp.In)=false:=by cases d<;>first|rfl|exact absurd rfl h
 have f:(d==CmpOp.NotIn)=false:=by cases d<;>first|rfl|exact absurd rfl e
 cases b<;>simp[behindInMarks,g,f]
theorem vD(i:eM X (compareOp e) r)(l:PE X a ta)(j:PE X b tb)(f:behindInMarks e b=false):PE X (.Compare a [e] [b] pos) (tOp r ta tb):=by intro d s g H Q I h;exact wpAny_Compare1 (HW l j I h λv u s2 x y H2 I2 rx ry q=>i d s2 g H2 x y v u Q I2 rx ry q) f
def EK(t:TE):TT:=λσ H Q=>t σ H λx H' =>∃k,x=.bl k/\Q k H'
theorem nu(j:eM X (compareOp g) r)(m:PE X a ta)(l:PE X b tb)(i:behindInMarks g b=false):PT X (.Compare a [g] [b] pos) (EK (tOp r ta tb)):=by
 intro d s f H Q I h
 refine wpAny_isTrue_Compare1 (am (m d s f H _ I h) λv s1 ⟨x,H1,I1,r1,q1⟩=>am (l d s1 f H1 _ I1 q1) λu s2 ⟨y,H2,I2,r2,q2⟩ =>am (j d s2 f H2 x y v u _ I2 r1 r2 q2) λc s3 ⟨z,H3,I3,r3,k,e,q3⟩=> ?_) i
 subst e;cases r3;exact L6 ⟨H3,I3,q3⟩
def yW(r g :R2)(d e f:TE):TE:=λσ H Q=>d σ H λx H1=>e σ H1 λy H2=>r x y H2 λz H3=>∃k,z=.bl k /\ (if k=true then f σ H3 λw' H4=>g y w' H4 Q else Q (.bl false) H3)
theorem qO{i:CmpOp}(o:eM X (compareOp i) r)(j :eM X (compareOp f) l)(q:PE X a ta)(p:PE X b tb)(n:PE X c tc)
  (m:lastMarks [i,f] [b,c]=false:=by with_unfolding_all rfl):PE X (.Compare a [i,f] [b,c] pos) (yW r l ta tb tc):=by
 intro d s g H Q I h
 refine Compare_chain (am (q d s g H _ I h) λv s1 ⟨x,H1,I1,r1,q1⟩=>chain_link (am (p d s1 g H1 _ I1 q1) λu s2 ⟨y,H2,I2,r2,q2⟩ =>am (o d s2 g H2 x y v u _ I2 r1 r2 q2) λd s3 ⟨z,H3,I3,r3,k,e,q3⟩=> ?_)) m
 subst e;cases r3;refine L6 ?_;cases k with
 |false=>exact ite_ff ⟨.bl false,H3,I3,rfl,q3⟩|true=>exact ite_tt (chain_last (am (n d s3 g H3 _ I3 q3) λw' s4 ⟨z',H4,I4,r4,q4⟩=>j d s4 g H4 y z' u w' Q I4 r2 r4 q4))
theorem qJ{i:CmpOp}(w:eM X (compareOp i) r)(j :eM X (compareOp f) l)(p:PE X a ta)(A:PE X b tb)(m:PE X c tc)
  (q:lastMarks [i,f] [b,c]=false:=by with_unfolding_all rfl):PT X (.Compare a [i,f] [b,c] pos) (EK (yW r l ta tb tc)):=by
 intro d s g H Q I h
 refine isTrue_chain (am (p d s g H _ I h) λv s1 ⟨x,H1,I1,r1,q1⟩=>test_link (am (A d s1 g H1 _ I1 q1) λu s2 ⟨y,H2,I2,r2,q2⟩ =>am (w d s2 g H2 x y v u _ I2 r1 r2 q2) λd s3 ⟨z,H3,I3,r3,k,e,q3⟩=> ?_)) q
 subst e;cases r3;refine L6 ?_;cases k with
 |false =>obtain⟨C,n,o⟩:=q3;cases n;exact ite_ff ⟨H3,I3,o⟩
 |true =>refine ite_tt (test_last (am (m d s3 g H3 _ I3 q3) λw' s4 ⟨z',H4,I4,r4,q4⟩=>am (j d s4 g H4 y z' u w' _ I4 r2 r4 q4) λd' s5 ⟨z2,H5,I5,r5,k2,e2,q5⟩=> ?_));subst e2;cases r5;exact L6 ⟨H5,I5,q5⟩
def Hl(K:W.Frag)(x:V)(H:Hp)(k:Bool):Prop :=
 match x with
 | .non=>k=false| .bl b=>k=b| .int i=>k=(i !=0)| .str y=>y.length<=sizeLine/\k=((y.length:Int) !=0)| .byt y=>y.size<=sizeLine/\k=((y.size:Int) !=0)| .ref p=>(∃d,bJ K H p d/\k= !d.isEmpty)\/(∃d,cU K H p d/\k= !d.isEmpty)\/∃e,H p=some (.dK e)/\k= !e.isEmpty|_=>False
theorem tz{f:Type}{d:List (f×V)}{e:List (f×Value)}(r:KV d e):(!e.isEmpty)= !d.isEmpty:=by cases r<;>rfl
theorem lG(r:aN e d):(!d.toArray.isEmpty)= !e.isEmpty:=by cases r<;>simp
theorem g9:(sizeLine:Nat)<2^63:=by decide
theorem E3:TruR X (λx H Q=>∃k,Hl X.K x H k/\Q k H):=by
 intro A s J H x v Q I l h;obtain⟨k,e,q⟩:=h;have M:=g9;have L:sizeLine=16777216:=Lp;cases x with
 |non =>cases l;have d :k=false:=e;subst d;exact truthy_none ⟨H,I,q⟩
 |bl b =>cases l;have d :k=b:=e;subst d;exact L6 ⟨H,I,q⟩
 |int i =>obtain⟨t,rfl⟩:=l;have d :k=(i !=0):=e;subst d;exact PySem.P.truthy_int ⟨H,I,q⟩
 |str y =>obtain⟨t,rfl⟩:=l;obtain⟨E,d⟩:y.length<=sizeLine/\k=((y.length:Int) !=0):=e;subst d;exact PySem.P.truthy_str (by omega) ⟨H,I.tok _,q⟩
 |byt y =>obtain⟨t,rfl⟩:=l;obtain⟨E,d⟩:y.size<=sizeLine/\k=((y.size:Int) !=0):=e;subst d;exact W.truthy_bytes (by omega) ⟨H,I.tok _,q⟩
 |ref p =>
  cases l;have d :=e
  rcases d with⟨j,n,d⟩|⟨j,n,d⟩|⟨f,n,d⟩
  ·subst d
   obtain⟨z,r,u,C⟩:=I.list n;have g:=r.length;exact wpAny_truthy_list u.isList (by simp only[K1];omega) ⟨H,I.tok _,by rw[lG r];exact q⟩
  ·subst d
   obtain⟨z,r,u,C⟩:=I.tuple n;have g:=r.length;exact truthy_tuple u (by simp only[K1];omega) ⟨H,I.tok _,by rw[lG r];exact q⟩
  ·subst d
   obtain⟨C,D,o,r,m⟩:f.length<=sizeLine/\(p==sysModules)=false/\∃o,KV f o/\s.heap.DictOf (ac X.prog X.w) p o:=I.hok p _ n;have g:f.length=o.length:=Paired.length r;exact wpAny_truthy_dict D m (by omega) ⟨H,I.tok _,by rw[tz r];exact q⟩
 |_=>exact(show False from e).elim
theorem zI(ha:PE X a ta)(he:∀whole,isTrue a X.env whole=(do let v<-whole;standAt a.pos;holding [v] (truthy v))) :
  PT X a (λσ H Q=>ta σ H λx H' =>∃k,Hl X.K x H' k/\Q k H'):=by
 intro pins s σ H Q I h;exact isTrue_plain (am (ha pins s σ H _ I h) λv s1 ⟨x,H1,I1,r1,q1⟩=>E3 pins s1 σ H1 x v Q I1 r1 q1) (he _)
theorem tO:eM X (binaryOp .Add) (λx y H Q=>∃i j,x=.str i/\y=.str j/\i.length+j.length<=sizeLine/\Q (.str (i++j)) H):=by intro d s l H x y v u Q I e f h;obtain⟨i,j,rfl,rfl,g,q⟩:=h;obtain⟨t,rfl⟩:=e;obtain⟨m,rfl⟩:=f;exact add_str (λt' tk=>⟨.str (i++j),H,I.tok _,⟨_,rfl⟩,q⟩) g
theorem vals1{us:List Value}(r:aN [x] us):∃u,us=[u]/\RelV x u:=by
 cases r with
 |cons e d=>cases d;exact⟨_,rfl,e⟩
theorem vals2{us:List Value}(r:aN [x,y] us):∃u d,us=[u,d]/\RelV x u/\RelV y d :=by
 cases r with
 |cons g h =>
  cases h with
  |cons f e=>cases e;exact⟨_,_,rfl,g,f⟩
theorem xV(hc:X.calm=true):bO X (.builtin "max") (λxs H Q=>∃i j,xs=[.int i,.int j]/\Q (.int (if j>i then j else i)) H):=by
 intro pins s σ H xs us Q I r h;obtain⟨i,j,rfl,q⟩:=h;obtain⟨u,w',rfl,⟨t,rfl⟩,⟨t',rfl⟩⟩:=vals2 r;refine max_two_ints (I.ok.hd hc) λh' tk k=>⟨_,H,I.kept k,?_,q⟩
 by_cases hj:j>i;rw[K5 hj,K5 hj];exact⟨_,rfl⟩;rw[LC hj,LC hj];exact⟨_,rfl⟩
theorem xU(hc:X.calm=true):bO X (.builtin "min") (λxs H Q=>∃i j,xs=[.int i,.int j]/\Q (.int (if j<i then j else i)) H):=by
 intro pins s σ H xs us Q I r h;obtain⟨i,j,rfl,q⟩:=h;obtain⟨u,w',rfl,⟨t,rfl⟩,⟨t',rfl⟩⟩:=vals2 r;refine min_two_ints (I.ok.hd hc) λh' tk k=>⟨_,H,I.kept k,?_,q⟩
 by_cases hj:j<i;rw[K5 hj,K5 hj];exact⟨_,rfl⟩;rw[LC hj,LC hj];exact⟨_,rfl⟩
theorem jZ:bO X (.type "int") (λxs H Q=>(∃i,xs=[.int i]/\Q (.int i) H)\/∃k,xs=[.bl k]/\Q (.int (if k then 1 else 0)) H):=by
 intro pins s σ H xs us Q I r h
 rcases h with⟨i,rfl,q⟩|⟨k,rfl,q⟩
 ·obtain⟨u,rfl,t,rfl⟩:=vals1 r
  exact call_int_int ⟨.int i,H,I,⟨_,rfl⟩,q⟩
 ·obtain⟨u,rfl,r1⟩:=vals1 r
  cases r1;exact call_int_bool ⟨.int (if k then 1 else 0),H,I.tok _,⟨_,rfl⟩,q⟩
end
structure Hs(h:Heap)(x dx C:Addr)(mA:Str->Option Value):Prop where
 obj:h.get? x=some (W.instObj C dx)
 ns:h.Ns1 dx mA
 ne:dx≠x
set_option tactic.hygienic true in
theorem jR{h:Heap}(n:h.Ns1 dx mA):∃od,h.get? dx=some od/\∀name,W.lookIn name od=some (mA name):=by
 obtain⟨o,es,ep,ho,hd,hk,_,hm⟩:=n;refine⟨o,ho,λname=> ?_⟩;have e:=hm name;unfold nsFind findBy at e;rw[<- Array.find?_toList]at e;unfold W.lookIn;rw[hd];dsimp only
 split
 ·rename_i y q
  rw[q]at e;exact L5 some e
 ·rename_i q
  rw[q]at e;have a:es.toList.any (·.refKey)=false:=by rw[List.any_eq_false];intro y hy;obtain⟨z,t,hkey⟩:=hk y (Array.mem_toList_iff.mp hy);simp[DictEntry.refKey,hkey]
  have a' :¬es.toList.any (·.refKey)=true:=by rw[a];exact K0
  rw[LC a'];exact L5 some e
theorem Hs.look(I:Hs h x d C c):∃b,W.InstAt h x (W.instObj C d) C (some b)/\∀a,W.lookIn a b=some (c a) :=
 let⟨b,ho,hl⟩:=jR I.ns
 ⟨b,⟨I.obj,rfl,rfl,ho⟩,hl⟩
theorem iE.some_of{v:V}{o:Option Value}(r:iE (some v) o):∃u,o=some u/\RelV v u:=by
 cases o with
 |none=>exact(show False from r).elim|some u=>exact⟨u,rfl,r⟩
theorem xK{v:V}(r:RelV v u):W.handedIn u=true:=by
 cases v with
 |non=>cases(show u=Value.none from r);rfl|bl b=>cases(show u=Value.bool b from r);rfl|int i=>obtain⟨t,e⟩:=(show∃t,u=Value.int i t from r);cases e;rfl
 |str x=>obtain⟨t,e⟩:=(show∃t,u=Value.str x t from r);cases e;rfl
 |byt b=>obtain⟨t,e⟩:=(show∃t,u=Value.bytes b t from r);cases e;rfl
 |flt b=>obtain⟨t,e⟩:=(show∃t,u=Value.float b t from r);cases e;rfl
 |ref a=>cases(show u=Value.ref a from r);rfl|ty n=>cases(show u=Value.type n from r);rfl
section
variable{P:Program}{w:World}{H H' :Hp}{h h' :Heap}{a C dx:Addr}{fs fs' :List (Str×V)}
theorem DJ(c:dm P w H h)(e:H a=some (.ins C dx fs)):∃b,Hs h a dx C b/\(∀f,iE (fs.lookup f) (b f))/\PySem.Within b (fs.map (·.1))/\fs.length<=1000/\H dx=some (.own a):=by obtain⟨d,z,g,i,b,n,r,q⟩:=(show au P w H h a (.ins C dx fs)from c a _ e);exact⟨b,⟨i,n,g⟩,r,q,z,d⟩
end
structure Cls(K:W.Frag)(C:Addr):Prop where
 pg:W.plainGet K C Str.empty=true
 hd:W.hasDictIn K C=true
 po:W.plainOver K C=true
 sa:W.findIn K (.ref C) "__setattr__"=some (some (.builtin "object.__setattr__"))
theorem Cls.get{K:W.Frag}(c:Cls K C)(f:Str):W.plainGet K C f=true:=c.pg
section
variable{X:Cx}{pins:List (Addr×Obj)}{σ:St}{H:Hp}{s:Shared}{a C dx:Addr}{fs:List (Str×V)}{f:Str}{v:V}{A:Around}{E:Value->Shared->Prop}
theorem EA{s:Shared}(d:attributeBase e f c (eval e c)=eval e c)
  (h:wpAny (model b w) A (eval e c) (λo s₁=>wpAny (model b w) A (getAttr o f true) Q E s₁) E s):wpAny (model b w) A (eval (.Attribute e f pos) c) Q E s :=
 Attribute_any_ h (by rw[arm_eval_Attribute,d])
end
section
variable{X:Cx}{pins:List (Addr×Obj)}{σ:St}{H:Hp}{s:Shared}{A:Around}{E:Value->Shared->Prop}{Q:Value->Shared->Prop}{c:Value}{b:Bool}
inductive jh(K:W.Frag)(H:Hp):V->Value->Prop where
 | non:jh K H .non (.type "NoneType")
 | bl (x:Bool):jh K H (.bl x) (.type "bool")
 | int (i:Int):jh K H (.int i) (.type "int")
 | str (x:Str):jh K H (.str x) (.type "str")
 | flt (x:UInt64):jh K H (.flt x) (.type "float")
 | lst {a:Addr} {xs:List V} (e:H a=some (.lst xs)):jh K H (.ref a) (.type "list")
 | frz {a:Addr} {o:Obj} {xs:List V} (e:H a=some (.frz o (.lst xs))):jh K H (.ref a) (.type "list")
 | tup {a:Addr} {xs:List V} (e:H a=some (.tup xs)):jh K H (.ref a) (.type "tuple")
 | dK {a:Addr} {kvs:List (ah×V)} (e:H a=some (.dK kvs)):jh K H (.ref a) (.type "dict")
 | dT {a:Addr} {kvs:List (List ah×V)} (e:H a=some (.dT kvs)):jh K H (.ref a) (.type "dict")
 | ins {a C dx:Addr} {fs:List (Str×V)} (e:H a=some (.ins C dx fs)) (cl:Cls K C) (ha:W.findIn K (.ref C) "__class__"=some (some (.builtin "object.__class__")))
   (hn:W.specialIn K (.builtin "object.__class__") "__get__"=some (some (.builtin "getset_descriptor.__get__"))) (htk:W.takesIn K (.builtin "object.__class__")=some true)
   (hm:W.mroIn K C (.type "object")=some true):jh K H (.ref a) (.ref C)
theorem xH{t:Value}(I:Inv X pins σ H s)(f:RelV x u)(N:jh X.K H x t)(e:W.kitOne X.K t c=some b)(h:∀D,Q (.bool b) {s with toks:=D}) :
  wpAny (model X.prog X.w) A (call (.builtin "isinstance") [u,c]) Q E s:=by
 cases N with
 |non=>cases(show u=Value.none from f);exact Mf W.kitx_none I.kIn True.intro e (λz=>nomatch z) h|bl y=>cases(show u=Value.bool y from f);exact Mf W.kitx_bool I.kIn True.intro e (λz=>nomatch z) h|int i=>obtain⟨t,q⟩:=(show∃t,u=Value.int i t from f);cases q;exact Mf W.kitx_int I.kIn True.intro e (λz=>nomatch z) h
 |str y=>obtain⟨t,q⟩:=(show∃t,u=Value.str y t from f);cases q;exact Mf W.kitx_str I.kIn True.intro e (λz=>nomatch z) h
 |flt y=>obtain⟨t,q⟩:=(show∃t,u=Value.float y t from f);cases q;exact Mf W.kitx_float I.kIn True.intro e (λz=>nomatch z) h
 | @lst a l d =>cases(show u=Value.ref a from f);obtain⟨_,_,n,_,g⟩:=(show au X.prog X.w H s.heap a (.lst l)from I.hok a _ d);exact Mf W.kitx_list I.kIn ⟨_,g,rfl⟩ e (λz=>nomatch z) h
 | @frz a M l d =>cases(show u=Value.ref a from f);obtain⟨_,_,_,n,_,g⟩:=(show au X.prog X.w H s.heap a (.frz M (.lst l))from I.hok a _ d);exact Mf W.kitx_list I.kIn ⟨_,g,rfl⟩ e (λz=>nomatch z) h
 | @tup a l d =>cases(show u=Value.ref a from f);obtain⟨_,_,_,p⟩:=(show au X.prog X.w H s.heap a (.tup l)from I.hok a _ d);obtain⟨o,g,m,_⟩:=p;exact Mf W.kitx_tuple I.kIn ⟨o,g,m⟩ e (λz=>nomatch z) h
 | @dK a j d =>cases(show u=Value.ref a from f);obtain⟨_,_,Z,_,p⟩:=(show au X.prog X.w H s.heap a (.dK j)from I.hok a _ d);obtain⟨o,L,S,g,m,_⟩:=p;exact Mf W.kitx_dict I.kIn ⟨o,g,m.1⟩ e (λz=>nomatch z) h
 | @dT a j d =>cases(show u=Value.ref a from f);obtain⟨_,_,l,_,o,L,S,g,m,_⟩:=(show au X.prog X.w H s.heap a (.dT j)from I.hok a _ d);exact Mf W.kitx_dict I.kIn ⟨o,g,m.1⟩ e (λz=>nomatch z) h
 | @ins a C dx Y d v R U r T =>cases(show u=Value.ref a from f);obtain⟨mA,O,_⟩:=DJ I.hok d;obtain⟨od,J,_⟩:=O.look;exact Mf (W.kitx_own (v.get _) v.hd R U r T) I.kIn J e (λz=>nomatch z) h
end
structure cM(k:Nat)(A:Around):Prop where
 hd:A.handled=none
 dp:A.depth+3*k+5<recursionLimit
 un:A.units+16*k+200<cLine
theorem cM.mono{k:Nat}{A:Around}(r:cM k A)(h:j<=k):cM j A:=⟨r.hd,by have:=r.dp;omega,by have:=r.un;omega⟩
theorem cM.deeper{k:Nat}{A:Around}(r:cM (k+1) A)(a:Env):cM k (A.deeper a) := ⟨r.hd,by have:=r.dp;show A.depth+1+3*k+5<_;omega,by have:=r.un;show A.units+3+16*k+200<_;omega⟩
theorem tX{A:Around}{us:List Value}:(A.under (.builtin "type.__call__" ⟨.ref C::us,a⟩)).depth=A.depth+1:=by first|rfl|simp[Around.under,Code.weight,Code.isCreation,Code.isGuard,Code.isCaller,Code.frames,Code.isFrame,guardIds]
theorem tW{A:Around}{us:List Value}:(A.under (.builtin "type.__call__" ⟨.ref C::us,a⟩)).units=A.units+1:=by first|rfl|simp[Around.under,Code.cUnits,Code.frames,Code.isFrame]
theorem cM.make{k:Nat}{A:Around}(r:cM (k+1) A)(C:Addr)(us:List Value)(a:List (Str×Value)):cM k (A.under (.builtin "type.__call__" ⟨.ref C::us,a⟩)) := ⟨r.hd,by have:=r.dp;rw[tX];omega,by have:=r.un;rw[tW];omega⟩
theorem cM.depth{k:Nat}{A:Around}(r:cM k A):A.depth<recursionLimit:=by have:=r.dp;omega
theorem cM.units{k:Nat}{A:Around}(r:cM k A):A.units+64<cLine:=by have:=r.un;omega
def tNil:TA:=λ_ H Q=>Q [] H
def Il(a:TE)(b:TA):TA:=λσ H Q=>a σ H λx H1=>b σ H1 λxs H2=>Q (x::xs) H2
section
variable{X:Cx}{e:Expr}{es:List Expr}{te:TE}{t:TA}{pos:Pos}
theorem aH:PA X [] tNil:=λ_ _ _ _ H Q I h=>Calls.spliced_nil ⟨[],H,I,.nil,h⟩
theorem aB(i:PE X e te)(l:PA X es t)(c:starEach (e::es) X.env=(false,eval e X.env)::starEach es X.env:=by rfl):PA X (e::es) (Il te t):=by intro pos a s b H Q I h;rw[c];refine Calls.spliced_cons (am (i a s b H _ I h) λu s1 hpq=> ?_);obtain⟨x,g,f,j,d⟩:=hpq;exact am (l pos a s1 b g _ f d) λus s2 ⟨xs,H2,I2,r2,q2⟩=>⟨x::xs,H2,I2,.cons j r2,q2⟩
def tTup(t:TA):TE:=λσ H Q=>t σ H λxs H1=>xs.length<=sizeLine/\∀p,H1 p=none->Q (.ref p) (upd H1 p (.tup xs))
def tLst(t:TA):TE:=λσ H Q=>t σ H λxs H1=>xs.length<=sizeLine/\∀p,H1 p=none->Q (.ref p) (upd H1 p (.lst xs))
theorem F3{x1}(h:PA X es t):PE X (.Tuple es x1 pos) (tTup t):=by intro a s b H Q I d;refine wpAny_Tuple_spliced (am (h pos a s b H _ I d) λus s1 ⟨xs,H1,I1,r,z,q⟩=>⟨by rw[<- r.length];exact z,?_⟩);have c:=I1.hok.fresh (Ky _);refine⟨.ref s1.heap.objs.size,upd H1 s1.heap.objs.size (.tup xs),I1.laid (λb u e=>Ks _ e) (Ky _) ?_,rfl,q _ c⟩;exact⟨z,us,r,⟨_,LO _ rfl,rfl,_,rfl,rfl⟩⟩
theorem dv(h:PA X es t):PE X (.List es pos) (tLst t):=by intro a s b H Q I d;refine wpAny_List_spliced (am (h pos a s b H _ I d) λus s1 ⟨xs,H1,I1,r,z,q⟩=>⟨by rw[<- r.length];exact z,?_⟩);have c:=I1.hok.fresh (Ky _);refine⟨.ref s1.heap.objs.size,upd H1 s1.heap.objs.size (.lst xs),I1.laid (λb u e=>Ks _ e) (Ky _) ?_,rfl,q _ c⟩;exact⟨z,us,0,r,LO _ rfl⟩
end
abbrev Sp:=List V->Hp->VK->XK->Prop
abbrev sO:=List Env->Hp->Shared->XK->Value->Shared->Prop
structure uc(P:Program)(w:World)(K:W.Frag)(mg:Str->Option Value)(base:Heap)(A:Around)(outer:List Env)(s:Shared)(H:Hp):Prop where
 frames:A.frames=some outer
 mod:Mod K mg base
 bs:∀b o,base.get? b=some o->s.heap.get? b=some o/\H b=none
 bsz:base.objs.size<=s.heap.objs.size
 funs:s.heap.FunFrames base outer
 frf:∀b∈sK outer,H b=none
 hok:dm P w H s.heap
 bare:AllBare s.gens
def CE(a:List Env)(P:Program)(w:World)(H:Hp)(s:Shared)(Q:VK)(u:Value)(b :Shared):Prop :=
 ∃v c,b.os=s.os/\AllBare b.gens/\Un (sK a) [] H c s.heap b.heap/\dm P w c b.heap/\RelV v u/\Q v c
def CR(c:sO)(a:List Env)(P:Program)(w:World)(H:Hp)(s:Shared)(Q:VK)(E:XK)(r:Result)(b :Shared):Prop :=
 match r with
 | .ok (.ret u)=>CE a P w H s Q u b| .ok _=>False| .error e=>c a H s E e b
structure aq(P:Program)(w:World)(K:W.Frag)(mg:Str->Option Value)(base:Heap)(CX:sO)(k:Nat)(f:Addr)(fd:FuncData)(ps:List Str)(sp:Sp):Prop where
 len:∀vs H Q E,sp vs H Q E->vs.length=ps.length
 run:∀(A:Around)(outer:List Env)(s:Shared)(H:Hp)(args:Args)(us:List Value)(vs:List V)(Q:VK)(E:XK),cM k A->uc P w K mg base A outer s H->BindsTo s fd args (ps.zip us)->aN vs us->sp vs H Q E ->
  codeAny (model P w) A (.call (.ref f) args) (CR CX outer P w H s Q E) s
theorem aq.mono{P:Program}{K:W.Frag}{k:Nat}(F:aq P w K c a g j f e d b)(h:j<=k) :
  aq P w K c a g k f e d b:=⟨F.len,λA outer s H args us vs Q E hr=>F.run A outer s H args us vs Q E (hr.mono h)⟩
theorem uc.make{P:Program}{K:W.Frag}{A:Around}{s:Shared}(e:uc P w K c b A a s H)(C:Addr)(us:List Value)(d:List (Str×Value)) :
  uc P w K c b (A.under (.builtin "type.__call__" ⟨.ref C::us,d⟩)) a s H:=⟨by first|exact e.frames|(simpa [Around.under,Code.envs,Code.isFrame,pushEnvs]using e.frames),e.mod,e.bs,e.bsz,e.funs,e.frf,e.hok,e.bare⟩
section
variable{X:Cx}{pins:List (Addr×Obj)}{σ:St}{H:Hp}{s s' :Shared}
theorem Inv.env0(I:Inv X pins σ H s):uc X.prog X.w X.K X.mg X.base X.A X.stack s H := ⟨I.ok.frames,I.ok.mod,I.bs,LM I.ok.bsz I.sz,I.stack,I.stkFree,I.hok,I.bare⟩
theorem Inv.after(I:Inv X pins σ H s)(h:CE X.stack X.prog X.w H s Q u s'):EP X pins σ Q u s' :=by obtain⟨v,e,f,a,j,c,r,q⟩:=h;obtain⟨i,g,d,t,b⟩:=s';obtain rfl:b =s.os:=f;exact⟨v,e,I.call j c a (λb z=>absurd z (by simp)),r,q⟩
end
def Im(b:Sp)(a:List V)(E:XK)(t:TA):TE:=λσ H Q=>t σ H λvs H1=>b (vs++a) H1 Q E
def Binds(K:W.Frag)(c:FuncData)(b:List Str)(a:List Value):Prop :=
 ∀(s:Shared)(us:List Value),K.In s.heap->(us++a).length=b.length->BindsTo s c ⟨us,[]⟩ (b.zip (us++a))
theorem Binds.all{K:W.Frag}(h:∀us:List Value,us.length=a.length->bindArgs b ⟨us,[]⟩=pure (a.zip us)):Binds K b a []:=λs us _ hl=>by rw[MP]at hl ⊢;exact .of_eq (h us hl)
def o6(d:sO)(X:Cx)(E:XK):Prop:=∀(a:List (Addr×Obj))(c:St)(H:Hp)(s:Shared)(e:Value)(b :Shared),Inv X a c H s->d X.stack H s E e b ->X.xe e b
section
variable{X:Cx}{CX:sO}{k:Nat}{f C:Addr}{fd:FuncData}{ps:List Str}{sp:Sp}{dvs:List V}{ds:List Value}{E:XK}{x m:Str}{p pos apos:Pos}{e o:Expr}{es:List Expr}{ta:TE}{t:TA}
theorem Fe{s:Shared}{us:List Value}(F:aq X.prog X.w X.K X.mg X.base CX k f fd ps sp)(g:cM k X.A)(q:Binds X.K fd ps ds)(n:aN dvs ds)(i:o6 CX X E)
  (I:Inv X a c H s) (r:aN b us) (h:sp (b++dvs) H Q E):wpAny (model X.prog X.w) X.A (call (.ref f) us) (EP X a c Q) X.xe s:=by
 have d:=r.append n;have l:(us++ds).length=ps.length:=by rw[<- d.length];exact F.len _ _ _ _ h
 refine OD (codeAny_mono (F.run X.A X.stack s H ⟨us,[]⟩ (us++ds) (b++dvs) Q E g I.env0 (q s us I.kIn l) d h) λr s' hq=> ?_);cases r with
 |error e=>exact i a c H s e s' I hq|ok j =>
  cases j with
  |ret u=>exact I.after hq|next=>exact False.elim hq|brk=>exact False.elim hq|cont=>exact False.elim hq
theorem ag(F:aq X.prog X.w X.K X.mg X.base CX k f fd ps sp)(i:cM k X.A)(n:Gl X x)(v:X.mg x=some (.ref f))(l:W.keepIn X.K (.ref f)=true)(z:Binds X.K fd ps ds)(y:aN dvs ds)(j:o6 CX X E)
  (u:PA X (e::es) t) (b:(x==("__debug__":Str))=false:=by decide) (g:starEach (e::es) X.env=(false,eval e X.env)::starEach es X.env:=by rfl) (c:(backTo pos (starEach es X.env)).any (·.1)=false:=by rfl) :
  PE X (.Call (.Name x p) (e::es) [] pos) (Im sp dvs E t):=by
 intro a s d H Q I h;refine NW (fj I n v ?_ b);refine W.callWith_K I.ok.mod.kin l (am (u pos a s d H _ I h) λus s1 ⟨vs,H1,I1,r,q⟩=>⟨I1.kIn,?_⟩) g c;exact Fe F i z y j I1 r q
end
structure ak(N P:List Str)(sc:Scope):Prop where
 kind:sc.kind=.function
 co:sc.isCoroutine=false
 gen:sc.isGenerator=false
 nd:N.Nodup
 pre:N.take P.length=P
 par:∀x∈P,sc.names.lookup x=some .local\/sc.names.lookup x=some .cell
 nofree:∀y∈sc.names,y.2≠.free
theorem nD{b:Str->Option NameKind}{x:Str}:∀{a:List (Str×Value)}{m:Str->Option Value},(∀v,(x,v)∉a)->bindL b a m x=m x
 |[],_,_=>rfl|(n,v)::r,m,h=>by
  unfold bindL;rw[nD λw hw=>h w (Kx _ hw)]
  split
  ·have:x≠n:=by rintro rfl;exact h v K6
   simp[this]
  ·rfl
theorem nF{b:Str->Option NameKind}{x:Str}:∀{a:List (Str×Value)}{m:Str->Option Value},(∀v,(x,v)∉a)->bindC b a m x=m x
 |[],_,_=>rfl|(n,v)::r,m,h=>by
  unfold bindC;rw[nF λw hw=>h w (Kx _ hw)]
  split;rfl
  ·have:x≠n:=by rintro rfl;exact h v K6
   simp[this]
theorem nE{a:Str->Option NameKind}{x:Str}{v:Value}:∀{P:List Str}{b:List Value}{i:Nat}{m:Str->Option Value},P.Nodup->P[i]? =some x->b[i]? =some v->a x=some .local -> bindL a (P.zip b) m x=some v
 |[],_,_,_,_,h,_,_=>by simp at h|_::_,[],_,_,_,_,h,_=>by simp at h|p::P,w::b,0,m,nd,h1,h2,hk=>by simp at h1 h2;subst h1;subst h2;show bindL a ((p,w)::P.zip b) m p=_;unfold bindL;rw[nD λv hv=>(Lo.mp nd).1 (List.of_mem_zip hv).1,K5 hk];simp
 |p::P,w::b,i+1,m,nd,h1,h2,hk=>by show bindL a ((p,w)::P.zip b) m x=_;unfold bindL;exact nE (i:=i) (Lo.mp nd).2 (by simpa using h1) (by simpa using h2) hk
theorem nG{a:Str->Option NameKind}{x:Str}{v:Value}:∀{P:List Str}{b:List Value}{i:Nat}{m:Str->Option Value},P.Nodup->P[i]? =some x->b[i]? =some v->a x≠some .local -> bindC a (P.zip b) m x=some v
 |[],_,_,_,_,h,_,_=>by simp at h|_::_,[],_,_,_,_,h,_=>by simp at h|p::P,w::b,0,m,nd,h1,h2,hk=>by simp at h1 h2;subst h1;subst h2;show bindC a ((p,w)::P.zip b) m p=_;unfold bindC;rw[nF λv hv=>(Lo.mp nd).1 (List.of_mem_zip hv).1,LC hk];simp
 |p::P,w::b,i+1,m,nd,h1,h2,hk=>by show bindC a ((p,w)::P.zip b) m x=_;unfold bindC;exact nG (i:=i) (Lo.mp nd).2 (by simpa using h1) (by simpa using h2) hk
def start(N:List Str)(a:List V):St:=a.map some++List.replicate (N.length-a.length) none
def dg(CX:sO)(P:Program)(w:World)(K:W.Frag)(mg:Str->Option Value)(base:Heap)(N:List Str)(qual:Str)(scope:Scope)(f:Addr)(cd:Value)(A:Around)(outer:List Env)(s:Shared)(H:Hp)(E:XK):Cx where
 prog:=P
 w:=w
 K:=K
 mg:=mg
 base:=base
 A:=A.deeper (envOfC qual scope s.heap.objs.size f cd)
 N:=N
 s₀:=s
 H₀:=H
 env:=envOfC qual scope s.heap.objs.size f cd
 outer:=outer
 stack:=envOfC qual scope s.heap.objs.size f cd::outer
 ex:=[]
 calm:=true
 fn:=λ_=>true
 pn:=[]
 xe:=λe s' =>wpAny (model P w) (A.deeper (envOfC qual scope s.heap.objs.size f cd)) (leaving (envOfC qual scope s.heap.objs.size f cd) e) (λ_ s'' =>CX outer H s E e s'') (λe' s'' =>CX outer H s E e' s'') s'
theorem rY{a:Scope}{n:Nat}(h:a.names.lookup x=some .cell):∃c,(cellsFrom n a.names []).lookup x=some c:=by have q:=W.cellsFrom_some a.names n [] (.inl h);exact Md.mp q
theorem xI{CX:sO}{P:Program}{K:W.Frag}{qual:Str}{scope:Scope}{cd:Value}{A:Around}{s s1:Shared}{us:List Value}
  (S:ak N ps scope) (hd:A.handled=none) (e0:uc P w K mg base A outer s H) (hl:vs.length=ps.length) (r:aN vs us)
  (x:InCallC s s.heap.objs.size (bindL (envOfC qual scope s.heap.objs.size f cd).kindOf (ps.zip us) λ_=>none) (cellsFrom (s.heap.objs.size+1) scope.names []) (bindC (envOfC qual scope s.heap.objs.size f cd).kindOf (ps.zip us) λ_=>none) s1) :
  Inv (dg CX P w K mg base N qual scope f cd A outer s H E) [] (start N vs) H s1:=by
 have hpl:ps.length<=N.length:=by have:=L5 List.length S.pre;rw[Ln]at this;omega
 obtain⟨h1,tk,rfl,hk⟩:=x.done;have noA:∀b,b∉(dg CX P w K mg base N qual scope f cd A outer s H E).ex:=λb z=>absurd (show b∈([]:List Addr)from z) (by simp)
 refine⟨⟨e0.mod,S.kind,rfl,rfl,Ky _,λy z c h1 h2=> ?_,λy hy=> ?_,λy c _ h=> ?_,λ_=>hd,Around.frames_deeper e0.frames,.inr ⟨rfl,rfl⟩,λb z=>absurd z (noA b),e0.bs,e0.bsz,λb _ _=>noA b,λb z=>absurd z (noA b),e0.funs,e0.frf⟩,rfl,e0.bare,Un.kept hk,⟨_,x.toInCall.ns,λi y v h1 h2 h3=> ?_⟩,λy c h=>⟨_,x.cell y c h⟩,e0.hok.fresh (Ky _),λy c h=> ?_,λp hp=>absurd (show p∈([]:List (Addr×Obj))from hp) (by simp),e0.hok.kept hk,?_⟩
 ·exact name_of_addr x.apart (Le h1) (Le h2)
 ·have hy:=hy
  rcases hy with hy|hy
  ·exact rY hy
  ·exact absurd rfl (S.nofree _ (Le hy))
 ·exact Mp (x.above y c (Le h))
 ·have hi:i<vs.length:=by
   unfold start at h2
   by_cases hi:i<vs.length;exact hi
   ·rw[M8 (by simpa using hi)]at h2
    rw[List.getElem?_replicate]at h2
    split at h2<;>cases h2
  have ha:vs[i]? =some v:=by
   unfold start at h2;rw[L9 (by simpa using hi),LA]at h2;cases e:vs[i]? with
   |none=>rw[e]at h2;cases h2|some a=>rw[e]at h2;cases h2;rfl
  obtain⟨u,hu,rv⟩:=r.get ha;have hp:ps[i]? =some y:=by rw[<- S.pre,List.getElem?_take_of_lt (by omega)];exact h1
  have ndP:ps.Nodup:=by rw[<- S.pre];exact S.nd.sublist (List.take_sublist _ _)
  refine⟨u,rv,?_⟩
  rcases S.par y (K9 hp)with k|k
  ·exact .inl ⟨k,nE ndP hp hu k⟩
  ·obtain⟨c,e⟩:=rY k
   refine .inr ⟨.inl k,c,e,?_⟩;have q:=x.cell y c e;rw[nG ndP hp hu (by show scope.names.lookup y≠_;rw[k];decide)]at q;exact q
 ·exact e0.hok.fresh (Mp (x.above y c (Le h)))
 ·unfold start
  show _=N.length;rw[K7,Kr,Mx];omega
theorem my{P:Program}{K:W.Frag}{k:Nat}{qual:Str}{body:List Stmt}{scope:Scope}{kV ct:Value}
     (lk:K.lookup f=some ⟨oc,od,.func (W.fnOf l qual d body scope dV kV D pm an c ct),U⟩) (R:W.codeIn K c qual=true) (S:ak N M scope)
  (z:∀i H Q E,Y i H Q E->i.length=M.length)
  (p:∀(A:Around)(a:List Env)(s:Shared)(H:Hp)(i:List V)(Q:VK)(E:XK),cM k (A.deeper (envOfC qual scope s.heap.objs.size f c))->Y i H Q E -> ∃t,pB (dg O P w K L g N qual scope f c A a s H E) body t/\t {nx:=λ_ j =>Q .non j,rt:=Q} (start N i) H) :
  aq P w K L g O (k+1) f (W.fnOf l qual d body scope dV kV D pm an c ct) M Y:=by
 refine⟨z,λA a s H args us i Q E hr e0 hb r hsp=> ?_⟩;have hl:=z _ _ _ _ hsp;have Z:=e0.mod.kin.keeps λb o e=>(e0.bs b o e).1;have T:=e0.mod.nolimit.keeps λb o e=>(e0.bs b o e).1;have m:∀y∈M.zip us,scope.names.lookup y.1=some .local\/(scope.names.lookup y.1=some .cell/\((cellsFrom (s.heap.objs.size+1) scope.names []).lookup y.1).isSome=true):=λ⟨n,v⟩ hy=>by
  rcases S.par n (List.of_mem_zip hy).1 with q|q
  ·exact .inl q
  ·exact .inr ⟨q,W.cellsFrom_some _ _ _ (.inl q)⟩
 refine codeAny_call_function hr.depth (Z _ _ lk) rfl S.co S.gen rfl (W.codeRec_of Z R) (hb _ _ _ _ ?_);refine wpAny_newFunctionEnv_cells S.kind m λenv he s1 x=> ?_;subst he;refine⟨T.keeps x.toInCall.keep,codeAny_func ?_⟩;obtain⟨t,ht,hq⟩:=p A a s H i Q E (hr.deeper _) hsp;have I:Inv (dg O P w K L g N qual scope f c A a s H E) [] (start N i) H s1:=xI S hr.hd e0 hl r x;refine MF (ht [] s1 (start N i) H _ I hq) (λfl s' hs=> ?_) λe s' hs=>hs
 have C:∀{h :St}{j :Hp}{v:V}{u:Value},Inv (dg O P w K L g N qual scope f c A a s H E) [] h j s' ->RelV v u->Q v j ->CE a P w H s Q u s' :=
  λ{h j v u} J X q=>⟨v,j,J.os,J.bare,J.base,J.hok,X,q⟩
 cases fl with
 |ret u =>obtain⟨v,h,j,J,X,q⟩:=hs;exact C J X q
 |next =>obtain⟨h,j,J,q⟩:=hs;exact C (v:=V.non) J rfl q
 |brk =>obtain⟨_,_,_,q⟩:=hs;exact False.elim q
 |cont =>obtain⟨_,_,_,q⟩:=hs;exact False.elim q
section
variable{X:Cx}{x:Str}{p pos:Pos}{e:Expr}{es:List Expr}{t:TA}{id T:String}{r:List V->Hp->VK->Prop}
def tCB(r:List V->Hp->VK->Prop)(t:TA):TE:=λσ H Q=>t σ H λvs H1=>r vs H1 Q
theorem bQ(g:bO X (.builtin id) r)(n:Gl X x)(f:X.mg x=none)(m:bootBuiltins x=some (.builtin id))(l:PA X (e::es) t)(i:x≠"__name__":=by decide)(c:(x==("__debug__":Str))=false:=by decide)
  (j:starEach (e::es) X.env=(false,eval e X.env)::starEach es X.env:=by rfl) (b:(backTo pos (starEach es X.env)).any (·.1)=false:=by rfl):PE X (.Call (.Name x p) (e::es) [] pos) (tCB r t):=by
 intro a s d H Q I h;refine NW (eR I n f m ?_ i c);exact PyProof.Rows.callWith_builtin1 (am (l pos a s d H _ I h) λus s1 ⟨vs,H1,I1,r1,q1⟩=>g a s1 d H1 vs us Q I1 r1 q1) j b
theorem bY(g:bO X (.type T) r)(n:Gl X x)(f:X.mg x=none)(m:bootBuiltins x=some (.type T))(l:PA X (e::es) t)(i:x≠"__name__":=by decide)(c:(x==("__debug__":Str))=false:=by decide)
  (j:starEach (e::es) X.env=(false,eval e X.env)::starEach es X.env:=by rfl) (b:(backTo pos (starEach es X.env)).any (·.1)=false:=by rfl):PE X (.Call (.Name x p) (e::es) [] pos) (tCB r t):=by
 intro a s d H Q I h;refine NW (eR I n f m ?_ i c);exact L0 (am (l pos a s d H _ I h) λus s1 ⟨vs,H1,I1,r1,q1⟩=>g a s1 d H1 vs us Q I1 r1 q1) j b
end
end L2
namespace HT
open PySem PyProof.Rows
section
variable{prog:Program}{w:World}{A:Around}{E:Value->Shared->Prop}{s:Shared}
def mR(n d:Nat):Option Int->Nat
 |none=>d|some v=>if v<0 then(v+(n:Int)).toNat else min v.toNat n
theorem p7(n d:Nat):mR n d none=d:=rfl
set_option tactic.hygienic false
theorem uw(n d k:Nat):mR n d (some (k:Int))=min k n:=by show(if k<0 then(k+(n:Int)).toNat else min (k:Int).toNat n)=min k n;rw[LC (by omega),L4]
end
end HT
namespace L2
open PySem PySem.Spec PyProof.Rows
abbrev TO:=St->Hp->(Option Int->Hp->Prop)->Prop
def PO(X:Cx)(e:Option Expr)(t:TO):Prop :=
 ∀(a:List (Addr×Obj))(s:Shared)(b:St)(H:Hp)(Q:Option Int->Hp->Prop),Inv X a b H s->t b H Q -> wpAny (model X.prog X.w) X.A (evalPart e X.env) (λu s' =>∃o c,Inv X a b c s' /\IsPart u o/\Q o c) X.xe s
def Bv:TO:=λ_ H Q=>Q none H
def Ic(t:TE):TO:=λσ H Q=>t σ H λx H1=>∃i,x=.int i/\Q (some i) H1
set_option tactic.hygienic false
theorem intsAre_of:∀{us:List Value},aN (a.map V.int) us->IntsAre us a:=by
 induction a with
 |nil=>intro us r;cases r;exact .nil|cons n a c =>
  intro us r;cases r with
  |cons b d =>obtain⟨t,e⟩:=b;subst e;exact .cons n t (c d)
section
variable{X:Cx}{e:Expr}{te:TE}{lo hi:Option Expr}{tl th:TO}{pos p2:Pos}
theorem oA:PO X none Bv:=by intro a s b H Q I h;exact LS ⟨none,H,I,.none,h⟩
theorem n9(h:PE X e te):PO X (some e) (Ic te):=by intro a s b H Q I c;refine am (h a s b H _ I c) λu s1 hpq=> ?_;obtain⟨x,g,d,j,f⟩:=hpq;obtain⟨i,rfl,q⟩:=f;obtain⟨t,rfl⟩:=j;exact⟨some i,g,d,.int i t,q⟩
def SlR(X:Cx)(r:V->Option Int->Option Int->Hp->VK->Prop):Prop :=
 ∀(a:List (Addr×Obj))(s:Shared)(c:St)(H:Hp)(x:V)(v f g:Value)(h b:Option Int)(d:Addr)(Q:VK),Inv X a c H s->RelV x v->s.heap.IsSliceOf d f g .none->IsPart f h->IsPart g b->r x h b H Q -> ∃T i,typeLookup (.type T) "__getitem__"=pure (some (.builtin i))/\s.TypeIs v T/\wpAny (model X.prog X.w) X.A (getItem v (.ref d)) (EP X a c Q) X.xe s
def tSl(r:V->Option Int->Option Int->Hp->VK->Prop)(b:TE)(c a:TO):TE:=λσ H Q=>b σ H λx H1=>c σ H1 λl H2=>a σ H2 λu H3=>r x l u H3 Q
theorem kr(i:SlR X r)(g:PE X e te)(z:PO X lo tl)(j:PO X hi th):PE X (.Subscript e (.Slice lo hi none p2) pos) (tSl r te tl th):=by intro a s b H Q I h;refine Subscript_ (am (g a s b H _ I h) λv s1 hpq=> ?_);obtain⟨x,n,o,f,d⟩:=hpq;refine wpAny_Slice (am (z a s1 b n _ o d) λvl s2 ⟨l,H2,I2,pl,q2⟩=>am (j a s2 b H2 _ I2 q2) λvu s3 hpq=> ?_);obtain⟨u,c,D,m,E⟩:=hpq;refine LS ?_;have C:Inv X a b c {s3 with heap:=s3.heap.push {cls:=.type "slice",data:=.fields #[vl,vu,.none]}}:=D.kept λb ob q=>Ks _ q;obtain⟨T,K,p,J,y⟩:=i a {s3 with heap:=s3.heap.push {cls:=.type "slice",data:=.fields #[vl,vu,.none]}} b c x v vl vu l u s3.heap.objs.size Q C f (Heap.IsSliceOf.new ..) pl m E;exact tail_any J p y (by with_unfolding_all rfl)
def lQ(a:List V)(b c:Option Int):List V:=(a.drop (HT.mR a.length 0 b)).take (HT.mR a.length a.length c-HT.mR a.length 0 b)
theorem rW(a:List V)(c b:Option Int):(lQ a c b).length<=a.length:=by unfold lQ;rw[Ln,ML];omega
end
def sH(n:Nat)(i:Int):Option Nat:=if 0<=i then(if i<n then some i.toNat else none)else if -(n:Int)<=i then some (i+n).toNat else none
def dH{a:Type}(b:List a)(i:Int):Option a:=(sH b.length i).bind λj=>b[j]?
theorem vT{n:Nat}{i:Int}(h:sH n i=some j):seqIndex? i n=some j/\j<n/\ -(n:Int)<=i/\i<n:=by
 unfold sH at h
 by_cases b:0<=i
 ·rw[K5 b]at h
  by_cases a:i<n
  ·rw[K5 a]at h
   have e:=LR h;exact⟨by rw[seqIndex_of b a,e],by omega,by omega,a⟩
  ·rw[LC a]at h;cases h
 ·rw[LC b]at h
  by_cases a: -n<=i
  ·rw[K5 a]at h
   have e:=LR h;exact⟨by rw[seqIndex_neg (by omega) a,e],by omega,a,by omega⟩
  ·rw[LC a]at h;cases h
theorem ow{b:Type}{a:List b}{i:Int}{v:b}(h:dH a i=some v):∃j,seqIndex? i a.length=some j/\a[j]? =some v/\j<a.length/\ -(a.length:Int)<=i/\i<a.length:=by
 unfold dH at h;cases e:sH a.length i with
 |none=>rw[e]at h;cases h|some j =>rw[e]at h;obtain⟨f,c,d,g⟩:=vT e;exact⟨j,f,h,c,d,g⟩
theorem bh{a:Type}{xs:List a}{j:Nat}{v:a}(h:xs[j]? =some v):dH xs (j:Int)=some v:=by
 have b:=(Kw.mp h).1;have e:sH xs.length j=some j:=by unfold sH;rw[K5 (by omega),K5 (by omega)];simp
 unfold dH;rw[e];exact h
def vx(b:Expr):Prop:=∀o i,subscripted b false o i=operate [o,i] (getItem o i)
def Km(X:Cx)(r:R2):Prop :=
 ∀(c a:Expr)(b:List (Addr×Obj))(s:Shared)(d:St)(H:Hp)(x y:V)(v u:Value)(Q:VK),Inv X b d H s->RelV x v->RelV y u->r x y H Q -> subscripted a false v u=operate [v,u] (getItem v u)->wpAny (model X.prog X.w) X.A (subscriptTail c a v u) (EP X b d Q) X.xe s
def IM(X:Cx)(d:String)(r:V->List V->Hp->VK->Prop):Prop :=
 ∀(a:List (Addr×Obj))(s:Shared)(b:St)(H:Hp)(x:V)(c:List V)(v:Value)(us:List Value)(Q:VK),Inv X a b H s->RelV x v->aN c us->r x c H Q -> wpAny (model X.prog X.w) X.A (call (.builtin d) (v::us)) (EP X a b Q) X.xe s
section
variable{X:Cx}{a b:Expr}{ta tb:TE}{pos:Pos}
theorem ku(i:Km X r)(g:PE X a ta)(f:PE X b tb)(d:vx b):PE X (.Subscript a b pos) (tOp r ta tb):=by intro c s e H Q I h;exact Subscript_ (HW g f I h λv u s2 x y H2 I2 rx ry q=>i a b c s2 e H2 x y v u Q I2 rx ry q (d _ _))
def rIxL(K:W.Frag):R2:=λx y H Q=>∃p c i v,x=.ref p/\y=.int i/\bJ K H p c/\dH c i=some v/\Q v H
def rIxT(K:W.Frag):R2:=λx y H Q=>∃p c i v,x=.ref p/\y=.int i/\cU K H p c/\dH c i=some v/\Q v H
def rIxS:R2:=λx y H Q=>∃z i c,x=.str z/\y=.int i/\z.length<=sizeLine/\dH z.cps.toList i=some c/\Q (.str ⟨#[c]⟩) H
theorem eS:Km X (rIxL X.K):=by
 intro n g c s C H x y v u Q I O T h D;obtain⟨p,U,i,z,rfl,rfl,R,L,q⟩:=h;cases O;obtain⟨t,rfl⟩:=T;obtain⟨m,r,f,Z⟩:=I.list R;obtain⟨j,e,J,W,M,N⟩:=ow L;obtain⟨w,E,l⟩:=r.get J;have S:=r.length;have Y:=g9;have d:EP X c C Q w s:=⟨z,H,I,l,q⟩
 by_cases A:0<=i
 ·have o:i.toNat=j:=by
   rw[seqIndex_of A N]at e;exact LR e
  exact item_listR f.isList A (by omega) (by rw[o];simpa using E) d D
 ·have o:(i+(m.toArray.size:Int)).toNat=j:=by
   rw[seqIndex_neg (by omega) M]at e;rw[K1,<-S];exact LR e
  exact subscriptTail_builtinR f.isList.typeIs slot_list_getitem.lookup
   (wpAny_getItem_list_neg f.isList (by omega) (by rw[K1]<;>omega) (by omega) (by rw[o];simpa using E) ⟨rfl,d⟩) D
theorem tm:Km X (rIxT X.K):=by
 intro g e c s l H x y v u Q I C L h A;obtain⟨p,S,i,z,rfl,rfl,E,o,q⟩:=h;cases C;obtain⟨t,rfl⟩:=L;obtain⟨D,r,m,W⟩:=I.tuple E;obtain⟨j,M,n,T,O,R⟩:=ow o;obtain⟨w,N,f⟩:=r.get n;have J:=r.length;have U:=g9;have d:EP X c l Q w s:=⟨z,H,I,f,q⟩
 exact subscriptTail_builtinR m.typeIs slot_tuple_getitem.lookup
  (getItem_tuple m (by omega) (by omega) (by rw[K1,<-J];exact M) (by simpa using N) ⟨rfl,d⟩) A
theorem AQ:Km X rIxS:=by
 intro e d f s E H x y v u Q I A D h p;obtain⟨z,i,c,rfl,rfl,M,m,q⟩:=h;obtain⟨t,rfl⟩:=A;obtain⟨J,rfl⟩:=D;obtain⟨j,g,l,K,o,r⟩:=ow m;have C:z.cps.toList.length=z.length:=by simp[Str.length]
 rw[C]at g o r;have L:=g9
 exact tail_any (NX s z t) slot_str_getitem.lookup (getItem_str (c:=c) (by have w:decide (i< -(2^63:Int))=false:=Ld (by omega);have n:decide (i ≥ 2^63)=false:=Ld (by omega);rw[w,n,Bool.or_false]) (by rw[g];simpa using l) ⟨.str ⟨#[c]⟩,H,I.tok _,⟨_,rfl⟩,q⟩) p
theorem tV(c:List Value)(n j:Nat)(u:Value):Obj.mapSeq (·.setIfInBounds j u) {cls:=.type "list",data:=.seq c.toArray n}={cls:=.type "list",data:=.seq (c.set j u).toArray n}:=by simp[Obj.mapSeq]
theorem Inv.lst{d:List (Addr×Obj)}{g:St}{H:Hp}{s:Shared}{p:Addr}{f:List V}(I:Inv X d g H s)(h:H p=some (.lst f)) :
  ∃(c:List Value)(n:Nat),aN f c/\s.heap.get? p=some {cls:=.type "list",data:=.seq c.toArray n}/\f.length<=sizeLine:=by
 obtain⟨z,c,n,r,e⟩:=I.hok p _ h;exact⟨c,n,r,e,z⟩
theorem Inv.lstUpd{s:Shared}{o:List V}{g:List Value}{n i:Nat}(I:Inv X d l H s)(h:H p=some (.lst o))
  (v:s.heap.get? p=some {cls:=.type "list",data:=.seq g.toArray n}) (m:f {cls:=.type "list",data:=.seq g.toArray n}={cls:=.type "list",data:=.seq c.toArray i}) (r:aN j c) (w:j.length<=sizeLine) (t:Nat) :
  Inv X d l (upd H p (.lst j)) {s with heap:=s.heap.update p f,toks:=t}:=by
 have e:(s.heap.update p f).get? p=some {cls:=.type "list",data:=.seq c.toArray i}:=by rw[Mc f v (by rw[m]<;>rfl),m]
 refine I.write (by rw[h];trivial) (.inl rfl) (λb u hb q=>(Lz _ _ (MC hb)).trans q) ⟨_,e⟩ ?_;exact⟨w,c,i,r,e⟩
def JK:V->V->V->Hp->(Hp->Prop)->Prop:=λo i v H Q=>∃p c k j,o=.ref p/\i=.int k/\H p=some (.lst c)/\sH c.length k=some j/\Q (upd H p (.lst (c.set j v)))
theorem yj:Kg X JK:=by
 intro c s A H o i v N O u Q I E C D h;obtain⟨p,J,k,j,rfl,rfl,y,L,q⟩:=h;cases E;obtain⟨t,rfl⟩:=C;obtain⟨d,n,r,l,K⟩:=I.lst y;obtain⟨e,M,z,w⟩:=vT L;have g:=r.length;have R:=g9
 have x :=
  I.lstUpd y l (tV d n j u) (r.set D j) (by rw[Lk];exact K) s.toks
 by_cases m:0<=k
 ·have f:k.toNat=j:=by
   rw[seqIndex_of m w]at e;exact LR e
  exact W.ki_setAt l m (by omega) (by rw[K1,<-g];exact w) (by rw[f];exact⟨_,x,q⟩)
 ·have f:(k+(d.toArray.size:Int)).toNat=j:=by
   rw[seqIndex_neg (by omega) z]at e;rw[K1,<-g];exact LR e
  exact W.ki_setBack l (by omega) (by rw[K1,<-g];exact z) (by omega) (by rw[f];exact⟨_,x,q⟩)
theorem nR(d c:Option Int)(n:Nat):(sliceBounds d c none n).1=((HT.mR n 0 d:Nat):Int)/\(sliceBounds d c none n).2.1=((HT.mR n n c:Nat):Int)/\(sliceBounds d c none n).2.2=1:=by
 refine⟨?_,?_,rfl⟩
 ·cases d with
  |none=>simp[sliceBounds,HT.mR]|some i =>
   simp only[sliceBounds,HT.mR,Option.getD_none,show(1:Int)>0 by decide,M0]
   by_cases h:i<0;simp only[h,M0]<;>omega;simp only[h,NM]<;>omega
 ·cases c with
  |none=>simp[sliceBounds,HT.mR]|some i =>
   simp only[sliceBounds,HT.mR,Option.getD_none,show(1:Int)>0 by decide,M0]
   by_cases h:i<0;simp only[h,M0]<;>omega;simp only[h,NM]<;>omega
theorem lu(c:List Value)(d e:Option Int):slicePick c.toArray d e none=((c.drop (HT.mR c.length 0 d)).take (HT.mR c.length c.length e-HT.mR c.length 0 d)).toArray:=by obtain⟨h,f,g⟩:=nR d e c.toArray.size;unfold slicePick;rw[h,f,g];simp only[sliceRange_one,pick_run,K1]<;>rfl
def rSlL(K:W.Frag):V->Option Int->Option Int->Hp->VK->Prop:=λx lo hi H Q=>∃a c,x=.ref a/\bJ K H a c/\∀p,H p=none->Q (.ref p) (upd H p (.lst (lQ c lo hi)))
theorem nS:SlR X (rSlL X.K):=by intro g s y H x v C z e f A Q I p j l m h;obtain⟨a,c,rfl,n,q⟩:=h;cases p;obtain⟨u,r,i,w⟩:=I.list n;have d:=r.length;refine⟨"list",_,slot_list_getitem.lookup,i.isList.typeIs,?_⟩;refine wpAny_getItem_list_slice i.isList j l m .none (by simp) ?_ (by rw[K1]<;>omega);rw[lu,<-d];refine⟨.ref s.heap.objs.size,_,I.laid (λb ob q=>Ks _ q) (Ky _) ?_,rfl,q _ (I.hok.fresh (Ky _))⟩;exact⟨LM (rW c e f) w,_,0,(r.drop (HT.mR c.length 0 e)).take (HT.mR c.length c.length f-HT.mR c.length 0 e),LO _ rfl⟩
def gb:V->Bool
 | .non=>true| .bl _=>true| .int _=>true| .str _=>true|_=>false
def xu:V->V->Bool
 | .non,.non=>true| .bl a,.bl b=>a==b| .bl a,.int b=>(if a then 1 else 0)==b| .int a,.bl b=>a==(if b then 1 else 0)| .int a,.int b=>a==b| .str a,.str b=>a==b|_,_=>false
theorem HD{A:Around}{s:Shared}{v:Value}(f:RelV y u)(c:RelV x v)(g:gb y=true)(e:gb x=true):SeqAt.EqAt A s u v (xu y x):=by
 cases y with
 |non =>
  cases f;cases x with
  |non=>cases c;exact SeqAt.EqAt.same _|bl b=>cases c;exact SeqAt.EqAt.none_bool b|int b=>obtain⟨t,rfl⟩:=c;exact SeqAt.EqAt.none_int b t
  |str b=>obtain⟨t,rfl⟩:=c;exact SeqAt.EqAt.none_str b t
  |_=>exact absurd (show false=true from e) K0
 |bl a =>
  cases f;cases x with
  |non=>cases c;exact SeqAt.EqAt.bool_none a|bl b=>cases c;exact SeqAt.EqAt.bool_bool a b|int b=>obtain⟨t,rfl⟩:=c;exact SeqAt.EqAt.bool_int a b t
  |str b=>obtain⟨t,rfl⟩:=c;exact SeqAt.EqAt.bool_str a b t
  |_=>exact absurd (show false=true from e) K0
 |int a =>
  obtain⟨d,rfl⟩:=f;cases x with
  |non=>cases c;exact SeqAt.EqAt.int_none a d|bl b=>cases c;exact SeqAt.EqAt.int_bool a d b|int b=>obtain⟨t,rfl⟩:=c;exact SeqAt.EqAt.int_int a d b t
  |str b=>obtain⟨t,rfl⟩:=c;exact SeqAt.EqAt.int_str a d b t
  |_=>exact absurd (show false=true from e) K0
 |str a =>
  obtain⟨d,rfl⟩:=f;cases x with
  |non=>cases c;exact SeqAt.EqAt.str_none a d|bl b=>cases c;exact SeqAt.EqAt.str_bool a d b|int b=>obtain⟨t,rfl⟩:=c;exact SeqAt.EqAt.str_int a d b t
  |str b=>obtain⟨t,rfl⟩:=c;exact SeqAt.EqAt.str_str a d b t
  |_=>exact absurd (show false=true from e) K0
 |_=>exact absurd (show false=true from g) K0
def uD(x:V)(u:Value):Bool:=match u with
 | .none=>xu .non x| .bool b=>xu (.bl b) x| .int i _=>xu (.int i) x| .str z _=>xu (.str z) x|_=>false
theorem Al(r:RelV y u)(f:gb y=true):uD x u=xu y x:=by
 cases y with
 |non=>cases r;rfl|bl b=>cases r;rfl|int i=>obtain⟨t,rfl⟩:=r;rfl
 |str z=>obtain⟨t,rfl⟩:=r;rfl
 |_=>exact absurd (show false=true from f) K0
theorem jH{x:V}:∀{c:List V}{us:List Value},aN c us->c.all gb=true->us.any (uD x)=c.any λy=>xu y x
 |_,_,.nil,_=>rfl|y::c,u::us,.cons r t,f=>by rw[Nf,Kt]at f;rw[Mw,Mw,Al r f.1,jH t f.2]
theorem fN{A:Around}{s:Shared}{x:V}{v:Value}(g:RelV x v)(e:gb x=true):∀{d:List V}{us:List Value},aN d us->d.all gb=true->∀u∈us,SeqAt.EqAt A s u v (uD x u)
 |_,_,.nil,_=>λu c=>by cases c|y::d,u::us,.cons r t,f=>λu' c=>by
  rw[Nf,Kt]at f
  rcases LB.mp c with rfl|c
  ·rw[Al r f.1];exact HD r g f.1 e
  ·exact fN g e t f.2 u' c
def inV(x:V)(c:List V):Bool:=c.any λy=>xu y x
def rIn(K:W.Frag)(neg:Bool):R2:=λx y H Q=>∃p c,y=.ref p/\(bJ K H p c\/cU K H p c)/\gb x=true/\c.all gb=true/\Q (.bl (if neg then !inV x c else inV x c)) H
theorem mW:eM X (compareOp .In) (rIn X.K false):=by
 intro g s n H x y v u Q I i l h;obtain⟨p,o,rfl,d,j,e,q⟩:=h;cases l
 rcases d with d|d
 ·obtain⟨c,r,f,m⟩:=I.list d
  refine SeqAt.in_listAt (uD x) f.isList (λw hw=>fN i j r e w (by simpa using hw)) ⟨.bl _,H,I,rfl,?_⟩;rw[show c.toArray.any (uD x)=c.any (uD x)by simp,jH r e];exact q
 ·obtain⟨c,r,f,m⟩:=I.tuple d
  refine SeqAt.in_tupleAt (uD x) f (λw hw=>fN i j r e w (by simpa using hw)) ⟨.bl _,H,I,rfl,?_⟩;rw[show c.toArray.any (uD x)=c.any (uD x)by simp,jH r e];exact q
theorem oE:eM X (compareOp .NotIn) (rIn X.K true):=by
 intro g s n H x y v u Q I i l h;obtain⟨p,o,rfl,d,j,e,q⟩:=h;cases l
 rcases d with d|d
 ·obtain⟨c,r,f,m⟩:=I.list d
  refine SeqAt.notIn_listAt (uD x) f.isList (λw hw=>fN i j r e w (by simpa using hw)) ⟨.bl _,H,I,rfl,?_⟩;rw[show c.toArray.any (uD x)=c.any (uD x)by simp,jH r e];exact q
 ·obtain⟨c,r,f,m⟩:=I.tuple d
  refine SeqAt.notIn_tupleAt (uD x) f (λw hw=>fN i j r e w (by simpa using hw)) ⟨.bl _,H,I,rfl,?_⟩;rw[show c.toArray.any (uD x)=c.any (uD x)by simp,jH r e];exact q
theorem dW:bO X (.builtin "len") (λxs H Q=>∃p ys,xs=[.ref p]/\(bJ X.K H p ys\/cU X.K H p ys)/\Q (.int ys.length) H):=by
 intro pins s σ H xs us Q I r h;obtain⟨p,ys,rfl,hq,q⟩:=h;obtain⟨u,rfl,rx⟩:=vals1 r;cases rx;have hn:=g9
 rcases hq with hq|hq
 ·obtain⟨its,r',pl,hz⟩:=I.list hq
  have hlen:=r'.length;exact Calls.call_len_list pl.isList (by simp only[K1]<;>omega) ⟨.int ys.length,H,I.tok _,⟨s.toks+1,by rw[K1,hlen]⟩,q⟩
 ·obtain⟨its,r',pl,hz⟩:=I.tuple hq
  have hlen:=r'.length;exact len_tuple pl (by simp only[K1]<;>omega) ⟨.int ys.length,H,I.tok _,⟨s.toks+1,by rw[K1,hlen]⟩,q⟩
theorem jF:bO X (.builtin "len") (λxs H Q=>∃z,xs=[.str z]/\z.length<=sizeLine/\Q (.int z.length) H):=by intro pins s σ H xs us Q I r h;obtain⟨z,rfl,hz,q⟩:=h;obtain⟨u,rfl,t,rfl⟩:=vals1 r;have hn:=g9;exact len_str (by omega) ⟨.int z.length,H,I.tok _,⟨_,rfl⟩,q⟩
theorem eW:bO X (.type "list") (λxs H Q=>∃p ys,xs=[.ref p]/\(bJ X.K H p ys\/cU X.K H p ys)/\∀l,H l=none->Q (.ref l) (upd H l (.lst ys))):=by
 intro pins s σ H xs us Q I r h;obtain⟨p,ys,rfl,hq,q⟩:=h;obtain⟨u,rfl,rx⟩:=vals1 r;cases rx
 have fin:∀its,aN ys its->ys.length<=sizeLine->∀h' c',(∀b o',s.heap.get? b=some o' ->h'.get? b=some o') -> h'.get? s.heap.objs.size=some {cls:=.type "list",dict:=none,data:=.seq its.toArray c',slots:= #[]}->EP X pins σ Q (.ref s.heap.objs.size) {s with heap:=h'}:=λits r' hz h' c' kp e =>⟨.ref s.heap.objs.size,_,I.laid kp (Ky _) (show au X.prog X.w _ h' _ (.lst ys)from⟨hz,its,c',r',e⟩),rfl,q _ (I.hok.fresh (Ky _))⟩
 rcases hq with hq|hq
 ·obtain⟨its,r',pl,hz⟩:=I.list hq
  have hlen:=r'.length;obtain⟨o,ho,hc,n,hd⟩:=pl.isList;exact call_list_seq p (.inl rfl) ho hc hd (λh' c' kp e=>fin its r' hz h' c' kp e) (by simp only[K1]<;>omega)
 ·obtain⟨its,r',pl,hz⟩:=I.tuple hq
  have hlen:=r'.length;obtain⟨o,ho,hc,n,hd⟩:=pl;exact call_list_seq p (.inr rfl) ho hc hd (λh' c' kp e=>fin its r' hz h' c' kp e) (by simp only[K1]<;>omega)
theorem cH:bO X (.type "tuple") (λxs H Q=>∃p ys,xs=[.ref p]/\((bJ X.K H p ys/\∀l,H l=none->Q (.ref l) (upd H l (.tup ys)))\/(cU X.K H p ys/\Q (.ref p) H))):=by
 intro pins s σ H xs us Q I r h;obtain⟨p,ys,rfl,h⟩:=h;obtain⟨u,rfl,rx⟩:=vals1 r;cases rx
 rcases h with⟨hq,q⟩|⟨hq,q⟩
 ·obtain⟨its,r',pl,hz⟩:=I.list hq
  have hlen:=r'.length;refine call_tuple_list pl.isList (λh' kp=> ?_) (by simp only[K1]<;>omega);have I1:=I.kept (t' :=s.toks) kp
  have I2:=
   I1.laid (t' :=s.toks) (λb o e=>Ks _ e) (Ky _) (show au X.prog X.w _ _ _ (.tup ys)from⟨hz,its,r',jk.new _ _⟩)
  exact⟨.ref h'.objs.size,_,I2,rfl,q _ (I1.hok.fresh (Ky _))⟩
 ·obtain⟨its,r',pl,hz⟩:=I.tuple hq
  exact call_tuple_same pl ⟨.ref p,H,I,rfl,q⟩
def tyV(K:W.Frag)(T:String)(x:V)(H:Hp):Prop:=match x with
 | .str _=>T="str"| .int _=>T="int"| .ref p=>(T="list"/\∃d,bJ K H p d)\/(T="tuple"/\∃d,cU K H p d) \/ (T="dict"/\((∃c,H p=some (.dK c))\/∃c,H p=some (.dT c)))\/(T="set"/\∃S n,H p=some (.set S n))|_=>False
theorem yG{s:Shared}{v:Value}(I:Inv X h y H s)(r:RelV x v)(j:tyV X.K T x H) :
  s.TypeIs v T/\∀a,v=.ref a->∃q,s.heap.get? a=some q/\q.dict=none:=by
 cases x with
 |str z =>obtain⟨t,rfl⟩:=r;cases(show T="str" from j);exact⟨NX s z t,λ_ e=>nomatch e⟩
 |int i =>obtain⟨t,rfl⟩:=r;cases(show T="int" from j);exact⟨typeIs_int s i t,λ_ e=>nomatch e⟩
 |ref p =>
  cases r
  rcases j with⟨rfl,E,l⟩|⟨rfl,E,l⟩|⟨rfl,f⟩|⟨rfl,S,n,f⟩
  ·obtain⟨C,_,u,_⟩:=I.list l
   refine⟨u.isList.typeIs,λa e=> ?_⟩;cases e;obtain⟨o,n,e,c,D,_⟩:=u;exact⟨o,e,D⟩
  ·obtain⟨o,w,g,A⟩:=I.tupleD l
   refine⟨⟨o,w,g⟩,λa e=> ?_⟩;cases e;exact⟨o,w,A⟩
  ·have z:∃o,s.heap.get? p=some o/\o.ExactDict:=by
    rcases f with⟨m,f⟩|⟨m,f⟩
    ·obtain⟨_,_,_,_,o,_,_,e,d,_⟩:=I.hok p _ f
     exact⟨o,e,d⟩
    ·obtain⟨_,_,_,_,o,_,_,e,d,_⟩:=I.hok p _ f
     exact⟨o,e,d⟩
   obtain⟨o,e,d⟩:=z;refine⟨⟨o,e,d.1⟩,λa g=> ?_⟩;cases g;exact⟨o,e,d.2.1⟩
  ·obtain⟨o,_,_,_,e,d,_⟩:=I.hok p _ f
   refine⟨⟨o,e,d.1⟩,λa g=> ?_⟩;cases g;exact⟨o,e,d.2.1⟩
 |_=>exact False.elim j
def tBM0(K:W.Frag)(T:String)(r:V->List V->Hp->VK->Prop)(c:TE):TE:=λσ H Q=>c σ H λx H1=>tyV K T x H1/\r x [] H1 Q
def tBM(K:W.Frag)(T:String)(r:V->List V->Hp->VK->Prop)(c:TE)(t:TA):TE:=λσ H Q=>c σ H λx H1=>tyV K T x H1/\t σ H1 λxs H2=>r x xs H2 Q
variable{o e:Expr}{es:List Expr}{to:TE}{t:TA}{name:Str}{apos cpos:Pos}{T id:String}{r:V->List V->Hp->VK->Prop}
theorem tK(p:PlainAttrs T)(g:Slot T name id)(i:typeOf (.builtin id)=pure (.type "method_descriptor"))(y:IM X id r)(A:PE X o to)
  (d:attributeBase o name X.env (eval o X.env)=eval o X.env:=by rfl) (f:(apos.endLine==cpos.line)=true:=by rfl):PE X (.Call (.Attribute o name apos) [] [] cpos) (tBM0 X.K T r to):=by
 intro c s j H Q I h;refine wpAny_Call_method0_late d f (am (A c s j H _ I h) λv s1 hpq=> ?_);obtain⟨x,u,m,l,w,q⟩:=hpq;obtain⟨z,n⟩:=yG m l w;exact⟨T,id,p,g,i,z,n,Nh rfl (PySem.evalArgs_none (y c s1 j u x [] v [] Q m l .nil q))⟩
theorem gX(w:PlainAttrs T)(j:Slot T name id)(m:typeOf (.builtin id)=pure (.type "method_descriptor"))(E:IM X id r)(L:PE X o to)(D:PA X (e::es) t)
  (f:attributeBase o name X.env (eval o X.env)=eval o X.env:=by rfl)
  (i:((backTo cpos (starEach (e::es) X.env)).all (λx=> !x.1)&&(backToKw cpos (keywordEach [] X.env)).all (λx=>x.1.isSome) && decide ((e::es).length+([]:List Keyword).length+(if([]:List Keyword).isEmpty then 0 else 1)<30))=true:=by rfl)
  (g:(apos.endLine==cpos.line)=true:=by rfl) (z:starEach (e::es) X.env=(false,eval e X.env)::starEach es X.env:=by rfl) (d:(backTo cpos (starEach es X.env)).any (·.1)=false:=by rfl) :
  PE X (.Call (.Attribute o name apos) (e::es) [] cpos) (tBM X.K T r to t):=by
 intro c s l H Q I h;refine wpAny_Call_method_late f i g rfl (am (L c s l H _ I h) λv s1 hpq=> ?_);obtain⟨x,A,p,n,C,y⟩:=hpq;obtain⟨J,u⟩:=yG p n C;refine⟨T,id,w,j,m,J,u,?_⟩;have q:=D cpos c s1 l A _ p y;rw[z]at q ⊢;refine Nh (by show(false||(backTo cpos (starEach es X.env)).any (·.1))=false;rw[d]<;>rfl) (Calls.evalArgs_plain ?_);exact am q λus s2 ⟨vs,H2,I2,r2,q2⟩=>E c s2 l H2 x vs v us Q I2 n r2 q2
end
def MtM(X:Cx)(d:String)(r:V->List V->Hp->VK->Prop):Prop :=
 ∀(a:List (Addr×Obj))(s:Shared)(b:St)(H:Hp)(x:V)(c:List V)(v:Value)(us:List Value)(Q:VK),Inv X a b H s->RelV x v->aN c us->r x c H Q -> wpAny (model X.prog X.w) X.A (call (.builtin d) (v::us)) (EP X a b Q) X.xe s
theorem aN.one{us:List Value}(h:aN [x] us):∃u,us=[u]/\RelV x u:=vals1 h
theorem aN.two{us:List Value}(h:aN [x,y] us):∃u v,us=[u,v]/\RelV x u/\RelV y v:=vals2 h
theorem aN.zero:∀{us:List Value},aN [] us->us=[]
 |_,.nil=>rfl
theorem aN.dropLast{us:List Value}(h:aN a us):aN a.dropLast us.dropLast:=by
 induction h with
 |nil=>exact .nil|cons r t b =>
  cases t with
  |nil=>exact .nil|cons q c =>exact .cons r b
theorem aN.reverse{us:List Value}(h:aN a us):aN a.reverse us.reverse:=by
 induction h with
 |nil=>exact .nil|cons r t b=>rw[NU,NU];exact aN.append b (.cons r .nil)
theorem aN.rep{a:List V}{us:List Value}(h:aN a us):∀k:Nat,aN (List.replicate k a).flatten (List.replicate k us).flatten
 |0=>.nil|k+1=>by rw[MA,MA,Mb,Mb];exact aN.append h (aN.rep h k)
theorem uA{c:Type}(l:List c):l.eraseIdx (l.length-1)=l.dropLast:=by
 induction l with
 |nil=>rfl|cons a r d =>
  cases r with
  |nil=>rfl|cons b r =>
   have e:(a::b::r).length-1=((b::r).length-1)+1:=by have g:(a::b::r).length=r.length+2:=rfl;have f:(b::r).length=r.length+1:=rfl;omega
   rw[e,List.eraseIdx_cons_succ,d]
   all_goals rfl
theorem foldl_rep(b:List Value):∀(k:Nat)(a:List Value),List.foldl (λx1 x2=>x1++x2) a.toArray (List.replicate k b.toArray)=(a++(List.replicate k b).flatten).toArray
 |0,a=>by simp|k+1,a=>by
  have e:a.toArray++b.toArray=(a++b).toArray:=by simp
  have c:(a++b)++(List.replicate k b).flatten=a++(List.replicate (k+1) b).flatten:=by rw[MA,Mb,NV]
  rw[<- c,<-foldl_rep b k (a++b),<-e,MA,List.foldl_cons]
section
variable{X:Cx}{pins:List (Addr×Obj)}{σ:St}{H:Hp}{s:Shared}{l b:Addr}{xs ys zs:List V}
theorem Inv.lset{a its':List Value}{n:Nat}(I:Inv X pins σ H s)(g:H l=some (.lst xs))
  (e:s.heap.get? l=some {cls:=.type "list",data:=.seq a.toArray n}) (d:f a.toArray=its'.toArray) (i:aN ys its') (h:ys.length<=sizeLine) :
  Inv X pins σ (upd H l (.lst ys)) {s with heap:=s.heap.update l (Obj.mapSeq f),toks:=c}:=by
 have q:=PySem.IsL.update e f;rw[d]at q;refine I.write (by rw[g];exact trivial) (.inl rfl) (λb' u hb hu=>(Lz s.heap (Obj.mapSeq f) (MC hb)).trans hu) ⟨_,q⟩ ?_;exact⟨h,its',_,i,q⟩
theorem Inv.lnew{t':Nat}(I:Inv X pins σ H s)(d:aN ys a)(c:ys.length<=sizeLine) :
  Inv X pins σ (upd H s.heap.objs.size (.lst ys)) {s with heap:=s.heap.push {cls:=.type "list",data:=.seq a.toArray},toks:=t'} :=
 I.laid (λ_ _ q=>Ks _ q) (Ky _) ⟨c,a,0,d,LO _ rfl⟩
theorem Inv.fresh(I:Inv X pins σ H s):H s.heap.objs.size=none:=I.hok.fresh (Ky _)
theorem Inv.lstM(I:Inv X pins σ H s)(c:H l=some (.lst xs)):xs.length<=sizeLine/\∃(a:List Value)(n:Nat),aN xs a/\xs.length=a.length/\s.heap.get? l=some {cls:=.type "list",data:=.seq a.toArray n}:=by obtain⟨z,a,n,r,e⟩:=I.hok l _ c;exact⟨z,a,n,r,r.length,e⟩
theorem zr{n:Nat}(h:n<=sizeLine):Builtin.List.listTooLong n=false:=by exact Ld (by omega)
end
section
variable{X:Cx}
def CT:V->List V->Hp->VK->Prop:=λx vs H Q=>∃l a y,x=.ref l/\vs=[y]/\H l=some (.lst a)/\a.length<sizeLine/\Q .non (upd H l (.lst (a++[y])))
theorem fh:MtM X "list.append" CT:=by intro b s i H x j v us Q I f d h;obtain⟨l,o,y,rfl,rfl,c,p,q⟩:=h;cases f;obtain⟨u,rfl,g⟩:=d.one;obtain⟨z,a,n,r,m,e⟩:=I.lstM c;refine Nr F.slot_list_append ⟨_,e,rfl⟩ F.entry_list_append (F.args_list_append_2 _ _) (PySem.list_append l a.toArray n u (by rw[K1];omega)) ⟨e,?_⟩;refine⟨.non,_,I.lset c e (by simp) (r.append (.cons g .nil)) ?_,rfl,q⟩;rw[K7,MW];omega
def rPop:V->List V->Hp->VK->Prop:=λx vs H Q=>∃l a y,x=.ref l/\vs=[]/\H l=some (.lst a)/\a[a.length-1]? =some y/\Q y (upd H l (.lst a.dropLast))
theorem GP:MtM X "list.pop" rPop:=by
 intro d s w H x A v us Q I m j h;obtain⟨l,C,y,rfl,rfl,f,i,q⟩:=h;cases m;have b:=j.zero;subst b;obtain⟨z,a,n,r,p,e⟩:=I.lstM f;obtain⟨u,g,o⟩:=r.get i;have c :a.toArray[a.toArray.size-1]? =some u:=by show a.toArray[a.length-1]? =some u;rw[<- Mz,<-p];exact g
 refine Nr F.slot_list_pop ⟨_,e,rfl⟩ F.entry_list_pop (F.args_list_pop_1 _) (MeetsSeq.list_pop_last l a.toArray n u c (by rw[K1];omega)) ⟨e,?_⟩;refine⟨y,_,I.lset f e ?_ r.dropLast ?_,o,q⟩
 ·show a.toArray.eraseIdxIfInBounds (a.toArray.size-1)=a.dropLast.toArray
  rw[K1,List.eraseIdxIfInBounds_toArray,uA]
 ·rw[List.length_dropLast]
  omega
def rCat:R2:=λx y H Q=>∃l b a c,x=.ref l/\y=.ref b/\H l=some (.lst a)/\H b=some (.lst c)/\a.length+c.length<=sizeLine/\∀p,H p=none->Q (.ref p) (upd H p (.lst (a++c)))
theorem GD:eM X (binaryOp .Add) rCat:=by
 intro d s A H x y v u Q I j m h;obtain⟨l,b,K,D,rfl,rfl,p,o,L,q⟩:=h;cases j;cases m;obtain⟨z,c,n,r,J,e⟩:=I.lstM p;obtain⟨C,a,E,w,i,f⟩:=I.lstM o;refine PySem.P.add_list e f ?_ (by rw[K1,K1];omega);have g:c.toArray++a.toArray=(c++a).toArray:=by simp
 rw[g];exact⟨.ref _,_,I.lnew (r.append w) (by rw[K7];omega),rfl,q _ I.fresh⟩
def rRep:R2:=λx y H Q=>∃l k a,x=.ref l/\y=.int k/\H l=some (.lst a)/\ -(2^63)<=k/\k<2^63/\a.length*k.toNat<=sizeLine /\ ∀p,H p=none->Q (.ref p) (upd H p (.lst (List.replicate k.toNat a).flatten))
theorem ig{b:Type}(a:List b)(k:Nat):(List.replicate k a).flatten.length=k*a.length:=by
 induction k with
 |zero=>simp|succ k c=>rw[MA,Mb,K7,c,NA,Nat.add_comm]
theorem ze:eM X (binaryOp .Mult) rRep:=by
 intro pins s σ H x y v u Q I rx ry h;obtain⟨l,k,xs,rfl,rfl,hH,h1,h2,hz,q⟩:=h;cases rx;obtain⟨t,rfl⟩:=ry;obtain⟨z,its,n,r,hl,e⟩:=I.lstM hH;have hlen:its.toArray.size*k.toNat<=sizeLine:=by rw[K1,<-hl];exact hz
 have hcap:¬its.toArray.size*k.toNat>(2^63-1)/8:=by
  have:(sizeLine:Nat)<=(2^63-1)/8:=by decide
  omega
 have hfit:¬(!Builtin.List.listFitsIndex k)=true:=by rw[fitsIndex_both h1 h2];exact K0
 have hlong:¬Builtin.List.listTooLong (its.toArray.size*k.toNat)=true:=by rw[zr hlen];exact K0
 have hnew:List.foldl (λx1 x2=>x1++x2) #[] (List.replicate (if its.toArray.isEmpty=true then 0 else k.toNat) its.toArray)=(List.replicate k.toNat its).flatten.toArray:=by
  have f0:=λm=>by have:=foldl_rep its m [];rw[List.nil_append]at this;exact this
  rw[f0];cases its with
  |nil=>simp|cons a r' =>rw[LC (by simp)]
 refine wpAny_binaryOp_repeat_ref (T:="list") (U:="int") (by decide) ⟨_,e,rfl⟩ (λs' =>typeIs_int s' k t) noFill_list_mul F.fills_int_mul F.slot_int_rmul repeat_list F.slot_int_index.lookup
  (Nr F.slot_int_rmul (typeIs_int s k t) F.entry_int_rmul (F.args_int_rmul_2 _ _) (int___rmul___int_list k t l its.toArray n) ⟨e,rfl,⟨_,e,rfl⟩,Nr F.slot_list_mul ⟨_,e,rfl⟩ F.entry_list_mul (F.args_list_mul_2 _ _) (AutoListH.list___mul___list_int_3 l its.toArray n k t hfit hcap hlong) ⟨e,?_⟩⟩)
 rw[hnew];exact⟨.ref _,_,I.lnew (t' :=s.toks) (r.rep k.toNat) (by rw[ig,Nat.mul_comm];exact hz),rfl,q _ I.fresh⟩
end
end L2
namespace Att
open PySem PySem.W PySem.Calls PyProof.Rows
set_option tactic.hygienic false
theorem j8{P:Params}:∀(c:List Int)(d:List Value),WellAll P h d (c.map WData.int)->IntsAre d c:=by
 intro c
 induction c with
 |nil =>intro d w;cases w;exact .nil
 |cons n c e =>
  intro d w;cases w with
  |cons a b =>cases a;exact .cons _ _ (e _ b)
theorem wc{l:OpenLaw}{n:Nat}(z:l.most=some n){P:Params}{args:List WData}
  (e:l.row.toRowW.claim.pre args=true) (o:WellAll P h c args) :
  ∃a q b,c=[Value.ref a]/\args=[WData.list (b.map WData.int)]/\h.get? a=some {cls:=.type "list",data:=.seq q.toArray}/\IntsAre q b/\b.length<=n:=by
 have m:=(pre_splitW e).1;have p:l.pre.holds [] {args:=args}=true:=(pre_splitW e).2;obtain⟨d,r,rfl,x,s⟩:=hasAllW_cons m;obtain rfl:=hasAllW_nil s;obtain⟨C,rfl,w⟩:=hasW_list x;obtain⟨b,rfl⟩:=items_int w;have g:b.length<=n:=by
  have i:(WTm.not (.lt (.lit (.int n)) (.len (.arg 0)))).holds [] {args:=[.list (b.map .int)]}=true:=by have i:=(holds_andW p).1;rw[z]at i;exact i
  have j:=condW_of i (w_not (w_lt w_lit (w_len_list (w_arg rfl))));refine Nat.le_of_not_lt λq=> ?_;have v :n<((b.length:Nat):Int):=by omega
  first
   |(rw[LU v]at j;exact absurd j (by decide))
   |(simp at j;omega)
 cases o with
 |cons u A =>
  cases A;cases u with
  |list y f=>exact⟨_,_,b,rfl,rfl,y,j8 b _ f,g⟩
theorem wr(l:OpenLaw)(args:List WData):l.row.toRowW.claim.post args (.bool true) args=true :=
 postW_of
  (show WShape.has [] (.bool true) .bool=true by first|rfl|decide|simp[WShape.has,WShape.arms,WShape.armsAll])
  (show(WTm.eq .res (.lit (.bool true))).value [] {args:=args,res:=some (.bool true),after:=args}=some (.bool (true==true))from w_eq_bool (w_res rfl) w_lit) rfl
theorem rn{l:OpenLaw}{n:Nat}
  (hn:l.most=some n) (C:d.params.defaults=[])
  (p:∀(w:World)(e b:Shared)(v E:Str->Option Value)(m:Addr)(o:Obj)(D y h:Value)(a:Addr)(i:List Value)(x:List Int),Ground q c [] L w e v E b.heap->J w b.heap -> b.heap.get? m=some o->o.data=.func (docDef d.name d.params d.body d.scope D y h)->b.heap.CodeRec y d.name->v d.name=some (.ref m) -> b.heap.get? a=some {cls:=.type "list",data:=.seq i.toArray}->IntsAre i x->x.length<=n->b.gens= #[] -> codeAny (model l.prog w) callerA (.call (.ref m) ⟨[.ref a],[]⟩) (λr s' =>r=.ok (.ret (.bool true))/\OldK b.heap s'.heap/\s'.os=b.os/\AllBare s'.gens) b) :
  WalkO q c L J l.row.toRowW d [] (λf i=>PySem.call f i):=by
 intro w e b v E G Y m o D y h Q S Z W z K A T args M as s I U H R;obtain rfl:Q=.none:=Dflts.none K C;obtain rfl:S=.none:=Dflts.noKw K;obtain⟨a,i,x,rfl,rfl,j,g,u⟩:=wc hn s H;refine enter_call (codeAny_mono (p w e b v E m o D y h a i x G Y Z (fd_plain W) z A j g u T) λr s' hq=> ?_);obtain⟨rfl,N,X,O⟩:=hq;exact⟨.inl ⟨.bool true,.bool true,[],rfl,λ_=>rfl,.bool true,wr l _,λ_=>⟨List.Pairwise.nil,λ_ hm=>(nomatch hm)⟩⟩,N,X,O⟩
end Att
namespace L2
open PySem PySem.Spec PyProof.Rows
set_option tactic.hygienic false
theorem wH(h:IntsAre a b):aN (b.map V.int) a:=by
 induction h with
 |nil=>exact .nil|cons n t h c=>exact .cons ⟨t,rfl⟩ c
def Hr(H:Hp):Prop:=∀b,H b=none\/∃o a,H b=some (.frz o (.lst a))
theorem AL{P:Program}{K:W.Frag}{CX:sO}{k:Nat}
  (KX:K.In c.heap) (E:c.heap.Ns mainGlobals D) (g:c.heap.Ns builtinsNs X) (a2:∀x:Str,x≠"__name__"->X x=bootBuiltins x) (R:c.heap.NoLimit) (hg:c.gens= #[])
  (S:c.heap.get? a=some {cls:=.type "list",data:=.seq y.toArray}) (hi:IntsAre y O) (hl:O.length<=sizeLine) (hr:cM k callerA)
  (F:∀j:Heap,K.In j->j.Ns mainGlobals D->aq P w K D j CX k Y fd [x] sp) (A:∀(s:Shared)(u:Value),BindsTo s fd ⟨[u],[]⟩ [(x,u)])
  (T:∀H:Hp,Hr H->bJ K H a (O.map V.int)->sp [.ref a] H (λv _=>v=.bl true) λ_ _ _=>False)
  (a0:∀H e i,CX [] H c (λ_ _ _=>False) e i ->False) :
  codeAny (model P w) callerA (.call (.ref Y) ⟨[.ref a],[]⟩) (λr i =>r=.ok (.ret (.bool true))/\OldK c.heap i.heap/\i.os=c.os/\AllBare i.gens) c:=by
 have rv:=wH hi;have Je:=hi.length
 have p:∀H:Hp,Hr H->bJ K H a (O.map V.int)->dm P w H c.heap->(∀b,H b≠none->b=a)->(H a≠none->K.lookup a=none) -> codeAny (model P w) callerA (.call (.ref Y) ⟨[.ref a],[]⟩) (λr i =>r=.ok (.ret (.bool true))/\OldK c.heap i.heap/\i.os=c.os/\AllBare i.gens) c:=by
  intro H hO hS I hA hK;have f:∀{b:Addr}{o:Obj},c.heap.get? b=some o->H b=none->(oU c.heap H).get? b=some o:=λe n=>AU e n;have a1:∀{b:Addr}{o:Obj}{J:Array DictEntry}{Q:Nat},c.heap.get? b=some o->o.data=.dict J Q->H b=none:=λ{b o J Q} e d=>by
   cases q:H b with
   |none=>rfl|some u =>have U :b=a:=hA b (by rw[q];simp);subst U;rw[S]at e;cases e;have d' :=d;cases d'
  have l:∀{b:Addr}{m:Str->Option Value},c.heap.Ns b m->(oU c.heap H).Ns b m:=λ{b m} ⟨o,J,Q,e,d,r⟩=>⟨o,J,Q,f e (a1 e d),d,r⟩
  have M:=λb o e=>f (KX b o e) (by
   cases q:H b with
   |none=>rfl|some u =>have U :b=a:=hA b (by rw[q];simp);subst U;rw[hK (by rw[q];simp)]at e;cases e)
  have hM:Mod K D (oU c.heap H):=⟨M,l E,⟨X,l g,a2⟩,let⟨mc,h1,h2⟩:=R;⟨mc,l h1,h2⟩⟩;have e0:uc P w K D (oU c.heap H) callerA [] c H:=⟨rfl,hM,λb o e=>Cs e,Nat.le_of_eq (xJ _ _),trivial,λb g=>absurd (show b∈([]:List Addr)from g) (by simp),I,.of_eq hg⟩;refine codeAny_mono ((F _ M (l E)).run callerA [] c H ⟨[.ref a],[]⟩ [.ref a] [.ref a] _ _ hr e0 (A c (.ref a)) (.cons rfl .nil) (T H hO hS)) λr i h=> ?_;cases r with
  |error e=>exact(a0 H e i h).elim|ok fl =>
   cases fl with
   |next=>exact False.elim h|brk=>exact False.elim h|cont=>exact False.elim h|ret u =>
    obtain⟨v,H',os,N,un,L,r',q⟩:=h;have q' :v=.bl true:=q;subst q';obtain rfl:u=Value.bool true:=r';refine⟨rfl,OldK.of_keep λb o e=> ?_,os,N⟩;cases q:H b with
    |none=>exact un.keep b o e q (by intro z;exact absurd (show b∈([]:List Addr)from z) (by simp)) (by simp)|some u =>
     rcases hO b with z|⟨ob,xs,z⟩
     ·rw[q]at z;cases z
     ·have z2:=un.frzs b ob _ z
      obtain⟨e1,_⟩:=I b _ z;obtain⟨e2,_⟩:=L b _ z2;rw[e]at e1;cases e1;exact e2
 cases Z:K.lookup a with
 |some o =>have e:=KX a o Z;rw[S]at e;cases e;refine p (λ_=>none) (λ_=>.inl rfl) (.inr ⟨_,y.toArray,_,Z,rfl,rfl,rfl,by rw[K1,Je];exact hl,by simpa using rv⟩) (λb u z=>by have C :=z;cases C) (λb z=>absurd rfl z) λz=>absurd rfl z
 |none =>
  refine p (λb=>if b=a then some (.frz {cls:=.type "list",data:=.seq y.toArray} (.lst (O.map V.int)))else none) (λb=> ?_) (.inl (.inr ⟨{cls:=.type "list",data:=.seq y.toArray},K5 rfl⟩)) (λb u z=> ?_) (λb z=> ?_) λ_=>Z
  ·by_cases g:b=a
   ·exact .inr ⟨_,_,K5 g⟩
   ·exact .inl (LC g)
  ·by_cases g:b=a
   ·have C :=(K5 g).symm.trans z
    cases C;subst g;exact⟨S,by rw[Kr];exact hl,y,_,rv,S⟩
   ·have C :=(LC g).symm.trans z
    cases C
  ·by_cases g:b=a
   ·exact g
   ·exact absurd (LC g) z
theorem Be{l:W.OpenLaw}{n k:Nat}{i:List Str}{d:DefRec}{K:Params->W.Frag}{CX:World->sO}{sp:World->Sp}{x:Str}
  (O:l.most=some n) (D:n<=sizeLine) (A:d.params.defaults=[]) (L:cM k callerA)
  (M:∀(w:World)(h:Heap),I w h->(K w.params).In h)
  (F:∀(w:World)(j:Str->Option Value)(m:Addr)(h:Heap),(K w.params).In h->h.Ns mainGlobals j->j d.name=some (.ref m) -> ∃C:FuncData,(∀(s:Shared)(u:Value),BindsTo s C ⟨[u],[]⟩ [(x,u)]) /\ ∀c:Heap,(K w.params).In c->c.Ns mainGlobals j->aq l.prog w (K w.params) j c (CX w) k m C [x] (sp w))
  (r:∀(w:World)(H:Hp)(a:Addr)(p:List Int),p.length<=n->Hr H->bJ (K w.params) H a (p.map V.int)->sp w [.ref a] H (λv _=>v=.bl true) λ_ _ _=>False)
  (z:∀(w:World)(H:Hp)(s:Shared)(e:Value)(y :Shared),CX w [] H s (λ_ _ _=>False) e y ->False) :
  W.WalkO q i N I l.row.toRowW d [] (λf vs=>PySem.call f vs):=by
 refine Att.rn O A λw s₀ s₁ j mb m o pm cd doc a vs p G Y ho hd hcd hmg hobj hints hlen hg=> ?_;have E:=M w _ Y;obtain⟨C,Q,J⟩:=F w j m _ E G.T.g hmg;exact AL E G.T.g G.T.b G.T.builtins G.T.nolimit hg hobj hints (LM hlen D) L J Q (λH hO hS=>r w H a p hlen hO hS) λH e y =>z w H s₁ e y
abbrev dI:sO:=λ_ _ _ _ _ _=>False
abbrev E0:XK:=λ_ _ _=>False
theorem bZ:o6 dI X E0:=λ_ _ _ _ _ _ _ h=>h.elim
structure IN(K:W.Frag)(x qual:Str)(st:Stmt)(f:Addr)(fd:FuncData):Prop where
 ex:∃(oc:Value)(od:Option Addr)(kV doc pm:Value)(an:Option Addr)(cdv ct:Value)(osl:Array (Option Value)),
  fd=W.fnOf x qual (bw st) (ai st) (aI st) .none kV doc pm an cdv ct/\K.lookup f=some ⟨oc,od,.func fd,osl⟩/\W.codeIn K cdv qual=true
 kp:W.keepIn K (.ref f)=true
section
variable{P:Program}{w:World}{K:W.Frag}{mg:Str->Option Value}{base:Heap}
theorem IN.ok{qual:Str}{m:FuncData}{i:List Str}{k:Nat}(F:IN K x qual e f m)(S:ak N i (aI e))(j:∀c H Q E,l c H Q E->c.length=i.length)
  (d:∀(b:Value)(A:Around)(a:List Env)(s:Shared)(H:Hp)(c:List V)(Q:VK)(E:XK),cM k (A.deeper (envOfC qual (aI e) s.heap.objs.size f b))->l c H Q E -> ∃t,pB (dg dI P w K mg base N qual (aI e) f b A a s H E).nox (ai e) t/\t {nx:=λ_ H' =>Q .non H',rt:=Q} (start N c) H):aq P w K mg base dI (k+1) f m i l:=by
 obtain⟨y,z,u,p,v,r,b,ct,o,rfl,n,g⟩:=F.ex;refine my n g S j λA a s H c Q E hr hsp=> ?_;obtain⟨t,h,q⟩:=d b A a s H c Q E hr hsp;exact⟨t,h.nox,q⟩
theorem IN.binds{qual:Str}(F:IN K x qual c f j)
  (h:∀(g b i:Value)(e:Option Addr)(a ct:Value)(us:List Value),us.length=d.length->bindArgs (W.fnOf x qual (bw c) (ai c) (aI c) .none g b i e a ct) ⟨us,[]⟩=pure (d.zip us)):Binds K j d []:=by
 obtain⟨o,p,g,b,i,e,a,ct,m,rfl,n,l⟩:=F.ex;exact .all (h g b i e a ct)
theorem AZ{qual:Str}{m i:Option Addr}{ct:Value}(l:K.lookup f=some ⟨j,m,.func (W.fnOf x qual (bw d) (ai d) (aI d) .none h b g i a ct),e⟩)
  (c:W.codeIn K a qual=true) (k:W.keepIn K (.ref f)=true):IN K x qual d f (W.fnOf x qual (bw d) (ai d) (aI d) .none h b g i a ct):=⟨⟨j,m,h,b,g,i,a,ct,e,rfl,l,c⟩,k⟩
end
theorem Ec{A:Around}{k:Nat}(a:cM k A):A.units+1<cLine:=MS (No (by decide:1<=64) _) a.units
section
variable{X:Cx}
theorem pv(i:Nat)(b:X.N[i]? =some x:=by rfl)(d:IJ X.env.scope x:=by first|exact Or.inl rfl|exact Or.inr (Or.inl rfl)|exact Or.inr (Or.inr rfl))(c:(x==("__debug__":Str))=false:=by decide)
  (a:(x==("__classdict__":Str))=false:=by decide):PE X (.Name x pos) (FF i):=jN b d c a
end
theorem ij{A B:Prop}(h:B):if false=true then A else B:=by exact h
theorem gP{A B:Prop}(h:A):if true=true then A else B:=by exact h
theorem ite2{c A B:Prop}[Decidable c](b:c->A)(a:¬c->B):if c then A else B:=by
 by_cases h:c
 ·rw[K5 h]
  exact b h
 ·rw[LC h]
  exact a h
def aE(H a :Hp):Prop:=∀b o,H b=some o->a b=some o
theorem aE.refl(H:Hp):aE H H:=λ_ _ h=>h
theorem aE.trans(a:aE H d)(b:aE d e):aE H e:=λc o h=>b c o (a c o h)
theorem aE.free(e:aE H a)(h:a l=Option.none):H l=Option.none:=by
 cases q:H l with
 |none=>rfl|some o =>rw[e l o q]at h;cases h
theorem aE.seq{K:W.Frag}(e:aE H b)(h:bJ K H a c):bJ K b a c:=by
 rcases h with(h|⟨o,h⟩)|h
 ·exact .inl (.inl (e _ _ h))
 ·exact .inl (.inr ⟨o,e _ _ h⟩)
 ·exact .inr h
end L2
namespace UM
open PySem PySem.Builtin PySem.Builtin.Str
set_option tactic.hygienic false
theorem qi{c:Nat}:∀{a e b d :List Nat},c∉a->c∉e ->a++c::b=e ++c::d ->a=e /\b=d
 |[],[],b,d,_,_,h=>⟨rfl,by simpa using h⟩|[],y::e,b,d,_,h2,h=>by simp only[List.nil_append,List.cons_append,List.cons.injEq]at h;exact absurd (h.1▸K6) h2
 |x::a,[],b,d,h1,_,h=>by simp only[List.nil_append,List.cons_append,List.cons.injEq]at h;exact absurd (h.1▸K6) h1
 |x::a,y::e,b,d,h1,h2,h=>by simp only[List.cons_append,List.cons.injEq]at h;obtain⟨j,i⟩:=h;obtain⟨g,f⟩:=qi (λz=>h1 (Kx _ z)) (λz=>h2 (Kx _ z)) i;exact⟨by rw[j,g],f⟩
theorem lE(c:Nat)(x y:Str)(r:List Str):(Str.join ⟨#[c]⟩ (x::y::r)).cps.toList=x.cps.toList++c::(Str.join ⟨#[c]⟩ (y::r)).cps.toList:=by show(x++⟨#[c]⟩++Str.join ⟨#[c]⟩ (y::r)).cps.toList=_;rw[Ng,Ng];simp
theorem eO{x:Str}(h:x.cps.toList=y.cps.toList):x=y:=PySem.Str.ext' (Array.toList_inj.mp h)
theorem qo(c:Nat):∀(A B:List Str),A≠[]->B≠[]->(∀p∈A,c∉p.cps.toList)->(∀p∈B,c∉p.cps.toList)->Str.join ⟨#[c]⟩ A=Str.join ⟨#[c]⟩ B->A=B
 |[],_,h,_,_,_,_=>absurd rfl h|_::_,[],_,h,_,_,_=>absurd rfl h|[x],[y],_,_,_,_,e=>by have e' :x=y:=e;rw[e']
 |[x],y::z::r,_,_,h1,_,e=>by
  have e' :x.cps.toList=y.cps.toList++c::(Str.join ⟨#[c]⟩ (z::r)).cps.toList:=by rw[<- lE,<-e];rfl
  exact absurd (by rw[e'];simp) (h1 x (by simp))
 |x::z::r,[y],_,_,_,h2,e=>by
  have e' :y.cps.toList=x.cps.toList++c::(Str.join ⟨#[c]⟩ (z::r)).cps.toList:=by rw[<- lE,e];rfl
  exact absurd (by rw[e'];simp) (h2 y (by simp))
 |x::x' ::r,y::y' ::t,_,_,h1,h2,e=>by have e' :=L5 (λs:Str=>s.cps.toList) e;simp only[lE]at e';obtain⟨i1,i2⟩:=qi (h1 x (by simp)) (h2 y (by simp)) e';have i3:=qo c (x' ::r) (y' ::t) (by simp) (by simp) (λp hp=>h1 p (Kx _ hp)) (λp hp=>h2 p (Kx _ hp)) (eO i2);rw[eO i1,i3]
theorem yc(x y:Str):Txt.split x y≠[]:=by
 unfold Txt.split
 split;simp
 ·split
  ·simp
  ·rw[StrLaws.partsBetween_eq]
   obtain⟨p,r,e⟩:=StrLaws.partsFrom_ne x y.length 0 (occurrences x y 0 x.length (x.length+1));rw[e];simp
theorem kU{c:Nat}(b:a≠[])(h:∀p∈a,c∉p.cps.toList):Txt.split (Str.join ⟨#[c]⟩ a) ⟨#[c]⟩=a := qo c _ _ (yc _ _) b (StrLaws.split_free _ c) h (StrLaws.join_split _ _)
theorem qQ(z y:Str):(partsBetween z (occurrences z y 0 z.length (z.length+1)) y.length).length<=z.length+2:=by have h:=StrLaws.occ_length_le z y 0 z.length (z.length+1);unfold partsBetween;rw[Kr,List.length_zip];simp only[LK,Kr,K7,List.length_nil];omega
theorem split_le(z y:Str):(Txt.split z y).length<=z.length+2:=by
 unfold Txt.split
 split;simp
 ·split
  ·simp
  ·exact qQ z y
structure aW(m:Nat)(rows:List Str):Prop where
 some:rows≠[]
 few:rows.length<=m
 wide:∃k,1<=k/\k<=m/\∀r∈rows,r.length=k
 signs:∀r∈rows,∀c∈r.cps.toList,c=120\/c=46
theorem aW.free{m:Nat}(b:aW m a):∀p∈a,10∉p.cps.toList:=λp hp hc=>by rcases b.signs p hp 10 hc with h|h<;>cases h
end UM
namespace L2
open PySem PySem.Spec PyProof.Rows
def jC(a:Env):List (Str×NameKind)->List (Str×Addr)->List (Str×Addr)
 |[],acc=>acc|(n,k)::r,acc=>if(k==NameKind.free)=true then jC a r ((n,(a.cells.lookup n).getD 0)::acc)else jC a r acc
set_option tactic.hygienic false
theorem jX{n:Str}{k:NameKind}(h:(k==NameKind.free)=true) :
  jC a ((n,k)::r) b=jC a r ((n,(a.cells.lookup n).getD 0)::b):=by
 show(if(k==NameKind.free)=true then _ else _)=_;rw[K5 h]
theorem iA{n:Str}{k:NameKind}(h:¬(k==NameKind.free)=true) :
  jC b ((n,k)::r) a=jC b r a:=by
 show(if(k==NameKind.free)=true then _ else _)=_;rw[LC h]
theorem rZ{n:Str}(h:a.cells.lookup n=some c):cellOf a n=pure c:=by unfold cellOf;rw[h]
theorem uL{scope:Scope}(h:∀x∈scope.names,x.2=.free->∃c,b.cells.lookup x.1=some c):closureFor scope b=pure (jC b scope.names []):=by
 suffices q:∀l d,(∀x∈l,x.2=.free->∃c,b.cells.lookup x.1=some c) -> (forIn l d (λ x r=>if(x.2==NameKind.free)=true then(do let a<-cellOf b x.1;pure (ForInStep.yield ((x.1,a)::r)))else pure (ForInStep.yield r)):Sem (List (Str×Addr)))=pure (jC b l d)by
  exact(L5 (λm=>m >>= pure) (q scope.names [] h)).trans (by rfl)
 intro l
 induction l with
 |nil=>intro d _;rfl|cons x l j =>
  intro d g;obtain⟨n,k⟩:=x;rw[List.forIn_cons]
  by_cases f:(k==NameKind.free)=true
  ·obtain⟨c,i⟩:=g (n,k) K6 (by simpa using f)
   rw[jX f];simp only[f,M0];rw[rZ i];have e:(b.cells.lookup n).getD 0=c:=by rw[show b.cells.lookup n=some c from i];rfl
   rw[e];exact j _ λy hy=>g y (Kx _ hy)
  ·rw[iA f]
   simp only[f];exact j _ λy hy=>g y (Kx _ hy)
theorem eJ{a:Env}:∀{l:List (Str×NameKind)}{b:List (Str×Addr)}{x:Str}{c:Addr},(∀y∈l,y.2=.free->∃c,a.cells.lookup y.1=some c) -> (jC a l b).lookup x=some c->b.lookup x=some c\/a.cells.lookup x=some c
 |[],b,x,c,_,h=>.inl h|(n,k)::l,b,x,c,hl,h=>by
  have e :∀y∈l,y.2=.free->∃c,a.cells.lookup y.1=some c:=λy hy=>hl y (Kx _ hy)
  by_cases j:(k==NameKind.free)=true
  ·rw[jX j]at h
   rcases eJ e h with q|q
   ·rw[Lm]at q
    cases f:(x==n)with
    |true =>
     have i:x=n:=by simpa using f
     subst i;obtain⟨m,g⟩:=hl (x,k) K6 (by simpa using j);have d:=g;rw[d]at q
     right
     rw[d]
     simpa using q
    |false =>rw[f]at q;exact .inl q
   ·exact .inr q
  ·rw[iA j]at h
   exact eJ e h
theorem jB{env:Env}:∀{l:List (Str×NameKind)}{acc:List (Str×Addr)}{x:Str},((x,NameKind.free)∈l\/∃c,acc.lookup x=some c)->∃c,(jC env l acc).lookup x=some c
 |[],acc,x,h=>by
  rcases h with h|h
  ·cases h
  ·exact h
 |(n,k)::l,acc,x,h=>by
  by_cases a:(k==NameKind.free)=true
  ·rw[jX a]
   refine jB ?_
   rcases h with h|⟨c,h⟩
   ·rcases LB.mp h with e|e
    ·right
     injection e with e1 e2
     subst e1;exact⟨(env.cells.lookup x).getD 0,by rw[Lm];simp⟩
    ·exact .inl e
   ·right
    rw[Lm];cases b:(x==n)with
    |true=>exact⟨_,rfl⟩|false=>exact⟨c,h⟩
  ·rw[iA a]
   refine jB ?_
   rcases h with h|h
   ·rcases LB.mp h with e|e
    ·injection e with e1 e2
     subst e2;exact absurd rfl a
    ·exact .inl e
   ·exact .inr h
section
variable{prog:Program}{w:World}{A:Around}{R:Result->Shared->Prop}{s:Shared}
theorem oi{i:List Expr}{scope:Scope}(I:Nat->Shared->Prop)
  (j:∀n s,I n s->wpAny (model prog w) A (pyNext l) (λr s₁=>match r with
   |none=>R (.ok .next) s₁|some v=>wpAny (model prog w) A (letOwnedTupleGo b l v) (λ_ s₁' =>wpAny (model prog w) A (assign b a v) (λ_ s₂ =>
     wpAny (model prog w) A (forIn i true λc r=>if r=true then do let ok<-isTrue c a (eval c a);pure (ForInStep.yield ok)else pure (ForInStep.yield r)) (λok s₃ =>
      if ok=true then wpAny (model prog w) A (eval f a) (λx s₄ =>
       wpAny (model prog w) A (call (.builtin "list.append") [g,x]) (λ_ s₅=>∃m,m<n/\I m s₅) (notedBy (model prog w) A a λe s' =>R (.error e) s') s₄) (notedBy (model prog w) A a λe s' =>R (.error e) s') s₃ else∃m,m<n/\I m s₃) (notedBy (model prog w) A a λe s' =>R (.error e) s') s₂) (notedBy (model prog w) A a λe s' =>R (.error e) s') s₁')
       (notedBy (model prog w) A a λe s' =>R (.error e) s') s₁) (notedBy (model prog w) A a λe s' =>R (.error e) s') s)
  (n:Nat) (h:I n s) :
  codeAny (model prog w) A (.compLoop (.ListComp f [⟨b,d,i,0⟩] scope pos) 0 l g a) R s:=by
 refine codeAny_loop rfl I (λn s hI=> ?_) n h;refine wpAny_noted ?_;refine Ku (OJ (Ku (MF (j n s hI) (λr s₁ h₁=> ?_) λ_ _ h' =>h')));cases r with
 |none=>exact LS h₁|some v =>
  refine Ku (MF h₁ (λ_ s₁' h₁' => ?_) λ_ _ h' =>h');refine Ku (MF h₁' (λ_ s₂ h₂=>Ku (MF h₂ (λok s₃ h₃=> ?_) λ_ _ h' =>h')) λ_ _ h' =>h');cases ok with
  |false=>exact LS ⟨rfl,h₃⟩|true =>exact Ku (Ku (MF h₃ (λx s₄ h₄=>Ku (MF h₄ (λ_ s₅ h₅=>LS (LS ⟨rfl,h₅⟩)) λ_ _ h' =>h')) λ_ _ h' =>h'))
end
abbrev bM(X:Cx)(d :List Str)(scope:Scope)(C:Addr)(c:Shared)(e:Hp)(b:List Addr)(a:List (Str×Addr)):Cx where
 prog:=X.prog
 w:=X.w
 K:=X.K
 mg:=X.mg
 base:=X.base
 A:=X.A
 N:=d
 s₀:=c
 H₀:=e
 env:=compEnvC scope a C X.env
 outer:=X.stack
 stack:=X.stack
 ex:=b
 fn:=λx=>scope.names.lookup x==some .cell
 calm:=X.calm
 pn:=[]
 xe:=λ_ _=>False
def ba(X:Cx)(scope:Scope):List Str->List (Option Nat)->Prop
 |[],[]=>True|_::ns,none::r=>ba X scope ns r|x::ns,some i::r=>(X.N[i]? =some x/\scope.names.lookup x=some .free/\(X.env.scope.names.lookup x=some .cell\/X.env.scope.names.lookup x=some .free))/\ba X scope ns r|_,_=>False
def bX(a:List (Option Nat))(b:St):St:=a.map λo=>match o with
 |none=>none|some i=>(b[i]?).join
theorem ba.len{X:Cx}{scope:Scope}:∀{b :List Str}{a:List (Option Nat)},ba X scope b a->a.length=b.length
 |[],[],_=>rfl|_::_,none::_,h=>L5 (·+1) (ba.len (show ba X scope _ _ from h))|_::_,some _::_,h=>L5 (·+1) (ba.len h.2)|[],_::_,h=>by cases h|_::_,[],h=>by cases h
theorem ba.at{X:Cx}{scope:Scope}{a:St}:∀{N' :List Str}{src:List (Option Nat)}{j:Nat}{x:Str}{v:V},ba X scope N' src->N'[j]? =some x->(bX src a)[j]? =some (some v) -> ∃i:Nat,X.N[i]? =some x/\a[i]? =some (some v)/\scope.names.lookup x=some .free/\(X.env.scope.names.lookup x=some .cell\/X.env.scope.names.lookup x=some .free)
 |[],[],j,x,v,_,h,_=>by simp at h|y::ns,none::r,0,x,v,_,_,h=>by simp[bX]at h|y::ns,none::r,j+1,x,v,s,h,h' =>ba.at (N' :=ns) (src:=r) (j:=j) s (by simpa using h) (by simpa [bX]using h')|y::ns,some i::r,0,x,v,s,h,h' =>by
  have e:y=x:=by simpa using h
  subst e;have q:(a[i]?).join=some v:=by simpa [bX]using h'
  refine⟨i,s.1.1,?_,s.1.2.1,s.1.2.2⟩;cases z:a[i]? with
  |none=>rw[z]at q;cases q|some o=>rw[z]at q;exact L5 some q
 |y::ns,some i::r,j+1,x,v,s,h,h' =>ba.at s.2 (by simpa using h) (by simpa [bX]using h')|[],_::_,_,_,_,s,_,_=>by cases s|_::_,[],_,_,_,s,_,_=>by cases s
def xk(X:Cx)(d:List Expr)(t:TT):Prop :=
 ∀(a:List (Addr×Obj))(s:Shared)(b:St)(H:Hp)(Q:Bool->Hp->Prop),Inv X a b H s->t b H Q -> wpAny (model X.prog X.w) X.A (forIn d true λc r=>if r=true then do let ok<-isTrue c X.env (eval c X.env);pure (ForInStep.yield ok)else pure (ForInStep.yield r)) (TP X a b Q) X.xe s
def pk:TT:=λ_ H Q=>Q true H
theorem fL:xk X [] pk:=λ_ _ _ H _ I h=>wpAny_tests_nil ⟨H,I,h⟩
theorem qM{t:TT}(h:PT X c t):xk X [c] t:=λpins s σ H Q I hw=>wpAny_tests_one (h pins s σ H Q I hw)
def Hz(X:Cx)(e :List Str)(c:List (Option Nat))(scope:Scope)(a:Expr)(i:List Expr)(f:Expr)(D:Addr)(o:St)(x:V)(d:List V)(r :Hp)(N:List V->Hp->Prop):Prop :=
 ∀(C:Addr)(m:Shared)(n:Hp)(h:List Addr)(l:List (Str×Addr)),∃(g:TG)(q:TT)(p:TE),PG (bM X e scope C m n h l) a g/\xk (bM X e scope C m n h l) i q/\PE (bM X e scope C m n h l) f p /\ g x (bX c o) r λσ2 H3=>(σ2.length=e.length/\∀(j:Nat)(v:V),(bX c o)[j]? =some (some v)->σ2[j]? =some (some v)) /\ q σ2 H3 λb H4=>if b=true then p σ2 H4 λv H5=>H5 D=some (.lst d)/\d.length<sizeLine/\N (d++[v]) (upd H5 D (.lst (d++[v])))else N d H4
def FG(X:Cx)(j :List Str)(c:List (Option Nat))(scope:Scope)(a:Expr)(d:List Expr)(b:Expr)(h:TI):TE:=λσ H Q=>h σ H λJ H1=>∀D,H1 D=none -> ∃W:Nat->Nat->List V->Hp->Prop,(∃m,W 0 m [] (upd H1 D (.lst [])))/\∀i m f H,W i m f H -> (J.stop i H/\Q (.ref D) H)\/(J.go i H/\∀x e,J.yld i H x e ->Hz X j c scope a d b D σ x f e λys' H'' =>∃g,g <m/\W (i+1) g ys' H'')
section
variable{X:Cx}{pins:List (Addr×Obj)}{σ:St}{H:Hp}{s:Shared}
structure xq(X:Cx)(scope:Scope)(C:Addr)(cl:List (Str×Addr)):Prop where
 ex:∃own,cl=own++jC X.env scope.names []/\(∀n c,(n,c)∈own->C<c/\scope.names.lookup n=some .cell)/\(∀x,(x,NameKind.cell)∈scope.names->∃c,own.lookup x=some c)/\own.Pairwise fun x y=>x.2≠y.2
theorem xq.sub{scope:Scope}(k:xq X scope C d)(a:∀y∈scope.names,y.2=.free->∃c,X.env.cells.lookup y.1=some c)(e:d.lookup x=some c) :
  (C<c/\scope.names.lookup x=some .cell)\/(scope.names.lookup x≠some .cell\/True)/\X.env.cells.lookup x=some c:=by
 obtain⟨b,rfl,f,g,h⟩:=k.ex;rw[MT]at e;cases z:b.lookup x with
 |some i =>rw[z]at e;cases e;exact .inl (f x c (Le z))
 |none =>
  rw[z]at e
  rcases eJ a e with q|q
  ·cases q
  ·exact .inr ⟨.inr trivial,q⟩
theorem Dp{N':List Str}{scope:Scope}{K:List (Str×Addr)}(I:Inv X pins σ H s)(i:scope.kind=.function)(k:xq X scope C K)
  (p:∀y∈scope.names,y.2=.free->∃c,X.env.cells.lookup y.1=some c) (r:s.heap.objs.size<=C) (L:∀b∈Q,jl X pins H b) (A:∀b∈Q,b<s.heap.objs.size):(bM X N' scope C s H Q K).Ok:=by
 have u:=λx c e=>let⟨_,q⟩:=I.cell x c e;q.lt
 obtain⟨g,j,N,W,h3⟩:=k.ex;have d:∀x c,K.lookup x=some c->(x,c)∈g\/X.env.cells.lookup x=some c:=λx c e=>by
  rw[j,MT]at e;cases z:g.lookup x with
  |some S =>rw[z]at e;cases e;exact .inl (Le z)|none =>
   rw[z]at e
   rcases eJ p e with q|q
   ·cases q
   ·exact .inr q
 refine⟨I.ok.mod,i,I.ok.glob,I.ok.blt,r,λx y c e1 e2=> ?_,λx hx=> ?_,λx c h e=> ?_,I.ok.hd,I.ok.frames,.inl rfl,λb hb=>⟨?_,λx c e=> ?_⟩,I.bs,LM I.ok.bsz I.sz,λb o e hb=> ?_,λb hb hs=> ?_,I.stack,I.stkFree⟩
 ·rcases d x c e1 with v|v<;>rcases d y c e2 with J|J
  ·exact PySem.name_of_addr h3 v J
  ·exact absurd (MZ (u y c J) (MS r (N x c v).1)) (MQ _)
  ·exact absurd (MZ (u x c v) (MS r (N y c J).1)) (MQ _)
  ·exact I.ok.inj x y c v J
 ·-- a name of the block's that is no local of it is one that it closes over,or has a cell of its g
  have T :=hx;have Z:∀k,(k=NameKind.cell\/k=NameKind.free)->(relabel scope X.env).names.lookup x=some k->(x,NameKind.free)∈scope.names\/(x,NameKind.cell)∈scope.names:=λk hk e=>by
   have m:=Le e;obtain⟨⟨n,M⟩,U,Y⟩:=LD.mp m
   by_cases E:M =NameKind.free
   ·subst E
    have f :(if(NameKind.free==NameKind.free&&X.env.scope.kind== .function&&X.env.kindOf n==some .cell)=true then(n,NameKind.cell)else(n,NameKind.free))=(x,k):=Y;have hn:n=x:=by split at f <;>exact(Prod.mk.inj f).1
    rw[<- hn];exact .inl U
   ·have f :(if(M ==NameKind.free&&X.env.scope.kind== .function&&X.env.kindOf n==some .cell)=true then(n,NameKind.cell)else(n,M))=(x,k):=Y
    have R:(M ==NameKind.free)=false:=by simpa using E
    rw[R,Nx,Nx,LC K0]at f;obtain⟨g1,g2⟩:=Prod.mk.inj f;subst g1 g2
    rcases hk with rfl|rfl
    ·exact .inr U
    ·exact .inl U
  have D:(x,NameKind.free)∈scope.names\/(x,NameKind.cell)∈scope.names->∃c,K.lookup x=some c:=by
   intro z;rw[j]
   rcases z with z|z
   ·obtain⟨c,O⟩:=jB (.inl z)
    rw[MT];cases g.lookup x with
    |some S =>exact⟨S,rfl⟩|none=>exact⟨c,O⟩
   ·obtain⟨c,O⟩:=W x z
    exact⟨c,by rw[MT,O];rfl⟩
  rcases T with e|e
  ·exact D (Z _ (.inl rfl) e)
  ·exact D (Z _ (.inr rfl) e)
 ·have h:scope.names.lookup x=some .cell:=by simpa using h
  obtain⟨S,w⟩:=W x (Le h);have e:K.lookup x=some c:=e;rw[j,MT,w]at e;cases e;exact LM r (Mp (N x c (Le w)).1)
 ·exact λe=>absurd (A b hb) (by show¬b<_;rw[e];exact Nat.not_lt.mpr r)
 ·rcases d x c e with q|q
  ·exact λz=>absurd (MZ (A b hb) (MS r (N x c q).1)) (by rw[z];exact MQ _)
  ·exact(L b hb).2.2.2.2.1 x c q
 ·rcases(L b hb).2.2.2.1 with q|q
  ·exact I.ok.noex b o e q
  ·exact absurd (LG e) (Nat.not_lt.mpr (LM I.ok.bsz q))
 ·rcases LB.mp (I.stkSub b hs)with q|q
  ·exact(L b hb).2.1 q
  ·exact(L b hb).2.2.1 q
theorem cG:∀(names:List (Str×NameKind))(n:Nat)(a b:List (Str×Addr)),cellsFrom n names (a++b)=cellsFrom n names a++b
 |[],_,_,_=>rfl|(x,k)::r,n,a,b=>by
  unfold cellsFrom
  split;exact cG r (n+1) ((x,n)::a) b;exact cG r n a b
set_option tactic.hygienic true in
theorem dw:∀(names:List (Str×NameKind))(n:Nat)(a:List (Str×Addr))(x:Str)(c:Addr),(x,c)∈cellsFrom n names a->(x,c)∈a\/(x,NameKind.cell)∈names
 |[],_,_,_,_,h=>.inl h|(y,k)::r,n,a,x,c,h=>by
  unfold cellsFrom at h
  split at h
  ·rename_i b
   have b:k=.cell:=by simpa using b
   rcases dw r (n+1) ((y,n)::a) x c h with q|q
   ·rcases LB.mp q with e|e
    ·cases e
     rw[b];exact .inr K6
    ·exact .inl e
   ·exact .inr (Kx _ q)
  ·rcases dw r n a x c h with q|q
   ·exact .inl q
   ·exact .inr (Kx _ q)
theorem Ds{scope:Scope}(a:∀y∈scope.names,y.2=.cell->scope.names.lookup y.1=some .cell)(h:Heap)(d:h.objs.size=C+1):xq X scope C (cellsFrom (C+1) scope.names (jC X.env scope.names [])):=by
 have b:=cellsFrom_ok scope.names h (C+1) [] ⟨λ_ _ hm=>(nomatch hm),List.Pairwise.nil⟩ (by rw[d];exact Ky _);rw[d]at b;refine⟨cellsFrom (C+1) scope.names [],by rw[<- cG];rfl,λn c hm=>⟨(b.empty n c hm).2,?_⟩,λx hx=> ?_,b.apart⟩
 ·rcases dw _ _ _ _ _ hm with q|q
  ·cases q
  ·exact a _ q rfl
 ·have:=W.cellsFrom_some scope.names (C+1) [] (.inl (a _ hx rfl))
  exact Md.mp this
theorem Am{A:Around}{s:Shared}{scope:Scope}{globals:Addr}{qual:Str}
  (h:Q {scope:=scope,locals:=s.heap.objs.size,globals:=globals,cells:=cellsFrom (s.heap.objs.size+1) scope.names b,qual:=qual,func:=none,code:=a.code,frame:=a.frame,builtins:=a.builtins} {s with heap:=pushCells (s.heap.push {cls:=.type "dict",data:=.dict #[]}) scope.names}) :
  wpAny M A (newFunctionEnv scope globals b [] qual none .none (some a)) Q E s:=by
 simp only[newFunctionEnv,Option.isSome_some,M0];refine Ku (wpAny_alloc ?_);refine Ku (wpAny_layCells _ (λname kind cells=>by cases c:kind==NameKind.cell<;>simp[]) _ _ _ _ ?_);rw[show({s with heap:=s.heap.push {cls:=.type "dict",data:=.dict #[]}}:Shared).heap.objs.size=s.heap.objs.size+1 from OF ..];exact Ku (LS (LS h))
end
theorem iO{a:Env}:∀{names:List (Str×NameKind)}{x:Str},names.lookup x=some .free -> (names.map λ(n,k)=>if(k==NameKind.free&&a.scope.kind== .function&&a.kindOf n==some .cell)then(n,NameKind.cell)else(n,k)).lookup x=some .cell \/ (names.map λ(n,k)=>if(k==NameKind.free&&a.scope.kind== .function&&a.kindOf n==some .cell)then(n,NameKind.cell)else(n,k)).lookup x=some .free
 |[],_,h=>by simp at h|(n,k)::r,x,h=>by
  have d:= @iO a r x;show List.lookup x ((if(k==NameKind.free&&a.scope.kind== .function&&a.kindOf n==some .cell)=true then(n,NameKind.cell)else(n,k))::_)=_\/List.lookup x ((if(k==NameKind.free&&a.scope.kind== .function&&a.kindOf n==some .cell)=true then(n,NameKind.cell)else(n,k))::_)=_;cases b:x==n with
  |true =>
   simp only[Lm,b]at h;cases h
   by_cases c:(NameKind.free==NameKind.free&&a.scope.kind== .function&&a.kindOf n==some .cell)=true;left;rw[K5 c];simp only[Lm,b];right;rw[LC c];simp only[Lm,b]
  |false =>
   simp only[Lm,b]at h
   by_cases c:(k==NameKind.free&&a.scope.kind== .function&&a.kindOf n==some .cell)=true;rw[K5 c];simp only[Lm,b];exact d h;rw[LC c];simp only[Lm,b];exact d h
section
variable{X:Cx}{pins:List (Addr×Obj)}{σ:St}{H:Hp}{s:Shared}
theorem uI{scope:Scope}{m:Str->Option Value}{tk:Nat}(I:Inv X pins σ H s)(n:scope.kind=.function)(k:xq X scope C w)
  (a:∀y∈scope.names,y.2=.free->∃c,X.env.cells.lookup y.1=some c) (h:ba X scope O j) (hf:∀b∈Y,jl X pins H b) (U:∀b∈Y,b<s.heap.objs.size)
  (p:D=s.heap.objs.size) (Q:s.heap.objs.size<C) (S:d.Ns C m) (f:∀b o,s.heap.get? b=some o->d.get? b=some o) (N:d.get? D=some {cls:=.type "list",data:=.seq #[]})
  (a1:∀x c,w.lookup x=some c->C<c->∃v,d.IsCell c v) :
  Inv (bM X O scope C s H Y w) [] (bX j σ) (upd H D (.lst [])) {s with heap:=d,toks:=tk}:=by
 have hn:H D=none:=by rw[p];exact I.hok.fresh (Ky _)
 have ok:=Dp (N' :=O) I n k a (Mp Q) hf U;have Z:D≠C:=by rw[p];exact LV Q
 refine⟨ok,rfl,I.bare,Un.laid f (by rw[p];exact Ky _) hn,⟨m,S,λj x v h1 h2 h3=> ?_⟩,λx c e=> ?_,?_,λx c e=> ?_,λp hp=>(by cases hp),I.hok.laid f (by rw[p];exact Ky _) ?_,?_⟩
 ·obtain⟨i,e1,e2,T,g⟩:=h.at h1 h2
  obtain⟨m0,_,hl⟩:=I.loc;obtain⟨u,r,l⟩:=hl i x v e1 e2 (.inr g);refine⟨u,r,?_⟩;obtain⟨A,W,o1,o2,o3⟩:=k.ex;have L:A.lookup x=none:=by
   cases z:A.lookup x with
   |none=>rfl|some c =>have:=(o1 x c (Le z)).2;rw[T]at this;cases this
  obtain⟨R,E⟩:=jB (acc:=[]) (.inl (Le T));have a0:X.env.cells.lookup x=some R :=by
   rcases eJ a E with q|q
   ·cases q
   ·exact q
  have M :w.lookup x=some R :=by rw[W,MT,L];exact E
  rcases l with⟨hk,_⟩|⟨hk,c,hc,J⟩
  ·have K :X.env.scope.names.lookup x=some .local:=hk
   rcases g with g|g
   ·rw[K]at g;cases g
   ·rw[K]at g;cases g
  ·have ec:=LR (a0.symm.trans hc)
   subst ec
   right
   exact⟨iO T,R,M,J.keeps f⟩
 ·rcases k.sub a (show w.lookup x=some c from e)with q|q
  ·exact a1 x c e q.1
  ·obtain⟨v,z⟩:=I.cell x c q.2
   exact⟨v,z.keeps f⟩
 ·show upd H D (.lst []) C=none
  rw[aA (MC Z)];exact I.hok.fresh (Mp Q)
 ·show upd H D (.lst []) c=none
  rcases k.sub a (show w.lookup x=some c from e)with q|q
  ·have:=MZ Q q.1
   rw[aA (by rw[p];exact NB this)];exact I.hok.fresh (Mp this)
  ·obtain⟨v,z⟩:=I.cell x c q.2
   rw[aA (by rw[p];exact LV z.lt)];exact I.freeC x c q.2
 ·exact⟨LY _,[],0,.nil,N⟩
 ·show(j.map _).length=O.length
  rw[Kr];exact h.len
theorem dm.but{P:Program}{h:Heap}(x:dm P w H h)(k:∀b u,H b≠none->h.get? b=some u->d.get? b=some u):dm P w H d :=λa o e =>
 (x a o e).stay (λb u c q=>k b u (by rcases c with rfl|c;(rw[e];simp);(rw[c];simp)) q) (λ_ q=>q) λ_ _ q=>q
def eE(a scope:Scope):Bool:=scope.names.all λy=> !(y.2==NameKind.free)||(a.names.lookup y.1==some .cell||a.names.lookup y.1==some .free)
theorem Ac{scope:Scope}(h:eE a scope=true):∀y∈scope.names,y.2=.free->(a.names.lookup y.1=some .cell\/a.names.lookup y.1=some .free):=λy hy hf=>by
 have z:=LL.mp h y hy;rw[hf]at z
 simpa using z
theorem vR{use:Option (Value->Sem Unit)}{P:Value->Shared->Prop}{scope:Scope}(hc:X.calm=true)(hi:PI X f r wi)(b0:ba X scope Y M)
  (a2:scope.kind=.function) (b4:∀y∈scope.names,y.2=.cell->scope.names.lookup y.1=some .cell) (a8:∀y∈scope.names,y.2=.local->scope.names.lookup y.1=some .local)
  (e8:eE X.env.scope scope=true)
  (hs:∀x,foldedSetIterable r X.env x=pure x) (I:Inv X pins σ H s) (h:FG X Y M scope f O b6 wi σ H Q)
  (e3:∀(C a:Addr)(l s4:Shared)(R H3:Hp)(L:List Addr)(N:List (Str×Addr))(m:Str->Option Value),Inv X pins σ R l->(∀b∈L,jl X pins R b)->(∀b,b<l.heap.objs.size->b≠C)->l.heap.objs.size<=C->Inv (bM X Y scope C l R L N) [] (bX M σ) H3 s4->s4.heap.Ns C m->Q (.ref a) H3->∀v,compPost (model X.prog X.w) X.A X.xe use P (.ref a) C (.ok v) s4) :
  wpAny (model X.prog X.w) X.A (comprehension (.ListComp b6 [⟨f,r,O,0⟩] scope pos) scope X.env (firstIterPos [⟨f,r,O,0⟩] pos) (newList []) (firstAsync [⟨f,r,O,0⟩]) (firstIter [⟨f,r,O,0⟩] X.env) use) P X.xe s:=by
 have K:∀y∈scope.names,y.2=.free->∃c,X.env.cells.lookup y.1=some c:=λy hy hf=>I.ok.has y.1 (Ac e8 y hy hf);refine wpAny_comprehension_free rfl hs (uL K) a2 a8 ?_;refine am (hi pins s σ H _ I h) λxv s1 h1=>am h1 λitv l h2=> ?_;obtain⟨it,L,tn,J,R,e,I2,T,e0,f2,q⟩:=h2;subst e;have a5:∀b∈L,b<l.heap.objs.size:=λb hb=>by obtain⟨o,e,_⟩:=T.obj _ _ e0 b hb;exact LG e
 refine OH (Am ?_);dsimp only
 generalize b3:l.heap.push {cls:=.type "list",dict:=none,data:=.seq ([]:List Value).toArray}=G2
 have hC:G2.objs.size=l.heap.objs.size+1:=by rw[<- b3,OF]
 have c8:l.heap.objs.size<=G2.objs.size:=by rw[hC];exact Ni _
 have a4:l.heap.objs.size<G2.objs.size:=by rw[hC];exact Nat.lt_succ_self _
 have a3:∀b,b<l.heap.objs.size->b≠G2.objs.size:=λb hb=>by rw[hC];exact LV (MN hb)
 obtain⟨N,a0⟩:∃N,N=cellsFrom (G2.objs.size+1) scope.names (jC X.env scope.names []):=⟨_,rfl⟩;obtain⟨p,D⟩:∃p,p=pushCells (G2.push {cls:=.type "dict",data:=.dict #[]}) scope.names:=⟨_,rfl⟩;rw[<- a0,<-D];have a1:(G2.push {cls:=.type "dict",data:=.dict #[]}).objs.size=G2.objs.size+1:=OF ..;have e2:xq X scope G2.objs.size N:=by rw[a0];exact Ds b4 _ a1
 have a9:p.Ns G2.objs.size (λ_=>none):=by rw[D];exact(Heap.Ns.new G2 (.type "dict")).keeps (pushCells_keeps _ _)
 have c5:∀b o,l.heap.get? b=some o->p.get? b=some o:=λb o e=>by rw[D];exact pushCells_keeps _ _ b o (Ks _ (b3▸Ks _ e))
 have c7:p.get? l.heap.objs.size=some {cls:=.type "list",data:=.seq #[]}:=by rw[D];exact pushCells_keeps _ _ _ _ (Ks _ (b3▸LO _ rfl))
 have f0:∀x c,N.lookup x=some c->G2.objs.size<c->∃v,p.IsCell c v:=λx c e hlt' =>by
  have d':=cellsFrom_ok scope.names (G2.push {cls:=.type "dict",data:=.dict #[]}) (G2.objs.size+1) [] ⟨λ_ _ hm=>(nomatch hm),List.Pairwise.nil⟩ (by rw[a1];exact Ky _);rw[a1]at d';have e1:N=cellsFrom (G2.objs.size+1) scope.names []++jC X.env scope.names []:=by rw[a0,<-cG];rfl
  rw[e1,MT]at e;cases z:(cellsFrom (G2.objs.size+1) scope.names []).lookup x with
  |some c' =>rw[z]at e;cases e;exact⟨none,by rw[D];exact(d'.empty x c (Le z)).1⟩
  |none =>
   rw[z]at e
   rcases eJ K e with q|q
   ·cases q
   ·obtain⟨v,zc⟩:=I2.cell x c q
    exact absurd (MZ zc.lt a4) (Nat.not_lt.mpr (Mp hlt'))
 have e7:=I2.hok.fresh (Ky _);obtain⟨W,⟨m0,w0⟩,c9⟩:=q l.heap.objs.size e7;have c6:tn 0 p:=T.keep _ _ _ e0 λb hb o e=>c5 b o e;have d4:∀b∈L,b∉sK X.stack:=λb hb hz=>by
  rcases LB.mp (I2.stkSub b hz)with z|z
  ·exact(f2 b hb).2.1 z
  ·exact(f2 b hb).2.2.1 z
 have e6:∀x c,N.lookup x=some c->G2.objs.size<c\/X.env.cells.lookup x=some c:=λx c e=>by
  rcases e2.sub K e with q|q
  ·exact .inl q.1
  ·exact .inr q.2
 have S:∀{H' :Hp},(∀b∈L,H' b=none)->∀b∈L,jl (bM X Y scope G2.objs.size l R L N) [] H' b:=λhn b hb =>⟨hn b hb,a3 b (a5 b hb),d4 b hb,.inl hb,λx c e=>(by rcases e6 x c e with q|q;(exact λz=>absurd (MZ (a5 b hb) (MZ a4 q)) (by rw[z];exact MQ _));exact(f2 b hb).2.2.2.2.1 x c q),λp hp=>by cases hp⟩
 have a':∀s3:Shared,s3={l with heap:=p} -> codeAny (model X.prog X.w) X.A (.compLoop (.ListComp b6 [⟨f,r,O,0⟩] scope pos) 0 (.ref it) (.ref l.heap.objs.size) (compEnvC scope N G2.objs.size X.env))
    (compPost (model X.prog X.w) X.A X.xe use P (.ref l.heap.objs.size) G2.objs.size) s3:=by
  rintro s3 rfl
  refine oi (λn s' =>∃i ys H',Inv (bM X Y scope G2.objs.size l R L N) [] (bX M σ) H' s' /\tn i s'.heap/\(∀b∈L,H' b=none)/\W i n ys H') ?_ m0
   ⟨0,[],_,uI I2 a2 e2 K b0 f2 a5 rfl a4 a9 c5 c7 f0,c6,λb hb=>by rw[aA (LV (a5 b hb))];exact(f2 b hb).1,w0⟩
  rintro n s' ⟨i,ys,H3,I3,b8,d5,w3⟩
  rcases c9 i n ys H3 w3 with⟨c4,qn⟩|⟨go,b'⟩
  ·refine am (T.done (bM X Y scope G2.objs.size l R L N) rfl rfl rfl hc i [] s' _ H3 _ I3 (S d5) b8 c4) λr s4 hpq=> ?_
   obtain⟨hr,I4⟩:=hpq;subst hr;obtain⟨m,hn,_⟩:=I4.loc;exact e3 _ _ l s4 R H3 L N m I2 f2 a3 c8 I4 hn qn _
  ·refine am (T.item (bM X Y scope G2.objs.size l R L N) rfl rfl rfl hc i [] s' _ H3 _ I3 (S d5) b8 go) λr s4 hpq=> ?_
   obtain⟨u,hr,h4⟩:=hpq;subst hr;refine am h4 λ_ s5 hpq=> ?_;obtain⟨x,H5,I5,r5,y5,b2,e4⟩:=hpq;obtain⟨g,tt,te,hg,ht,he,rd⟩:=b' x H5 y5 G2.objs.size l R L N;have e' :=I5.pinned (S e4) (T.obj _ _ b2);have a6:∀{α:Type}{t:Sem α}{Q' :α->Shared->Prop}{s' :Shared}{E:Value->Shared->Prop},wpAny (model X.prog X.w) X.A t Q' (λ_ _=>False) s' ->wpAny (model X.prog X.w) X.A t Q' E s' :=λz=>MF z (λ_ _ y=>y) λ_ _ y=>y.elim
   have Z:∀{a7:St}{H7:Hp}{s7:Shared}{b5 :List V},Inv (bM X Y scope G2.objs.size l R L N) ([]++ko L s5.heap) a7 H7 s7->(a7.length=Y.length/\∀(j:Nat)(v:V),(bX M σ)[j]? =some (some v)->a7[j]? =some (some v)) -> (∃m',m' <n/\W (i+1) m' b5 H7)->∃m,m<n/\∃i ys H',Inv (bM X Y scope G2.objs.size l R L N) [] (bX M σ) H' s7/\tn i s7.heap/\(∀b∈L,H' b=none)/\W i m ys H' :=λ{a7 H7 s7 b5} I7 U ⟨m',hm,w7⟩=>by refine⟨m',hm,i+1,b5,H7,(I7.unpinned).weak (by rw[show(bX M σ).length=Y.length by(show(M.map _).length=_;rw[Kr];exact b0.len)];exact U.1.symm) U.2,T.keep _ _ _ b2 λb hb o e=>(I7.pin (b,o) (Lb _ (Lb _ (eQ hb e)))).1,λb hb=> ?_,w7⟩;obtain⟨o,e,d⟩:=T.obj _ _ b2 b hb;exact(I7.pin (b,o) (Lb _ (Lb _ (eQ hb e)))).2.1
   refine a6 (am (hg _ s5 _ H5 x u _ e' r5 rd) λ_ s6 hpq=> ?_);obtain⟨b7,H6,I6,U,q6⟩:=hpq;refine a6 (am (ht _ s6 b7 H6 _ I6 q6) λb s7 hpq=> ?_);obtain⟨H7,I7,q7⟩:=hpq;cases b with
   |false=>exact Z I7 U q7|true =>rw[K5 rfl]at q7 ⊢;refine a6 (am (he _ s7 b7 H7 _ I7 q7) λy s8 hpq=> ?_);obtain⟨v,H8,I8,r8,e9,e5,q8⟩:=hpq;refine a6 (am (fh _ s8 b7 H8 (.ref l.heap.objs.size) [v] (.ref l.heap.objs.size) [y] (λ_ H9=>∃m',m' <n/\W (i+1) m' (ys++[v]) H9) I8 rfl (.cons r8 .nil) ⟨_,_,_,rfl,rfl,e9,e5,q8⟩) λ_ s9 hpq=> ?_);obtain⟨_,H9,I9,_,q9⟩:=hpq;exact Z I9 U q9
 exact codeAny_compStart_list (a' _ rfl) (T.self X.A 0 _ _ _ c6 (a' _ rfl))
theorem vB{scope:Scope}{N':List Str}{src:List (Option Nat)}(K:X.calm=true)(N:PI X c d J)(r:ba X scope N' src)
  (i:scope.kind=.function) (j:∀y∈scope.names,y.2=.cell->scope.names.lookup y.1=some .cell) (f:∀y∈scope.names,y.2=.local->scope.names.lookup y.1=some .local)
  (D:eE X.env.scope scope=true)
  (L:∀x,foldedSetIterable d X.env x=pure x:=by intro _;rfl) :
  PE X (.ListComp p [⟨c,d,q,0⟩] scope pos) (FG X N' src scope c q p J):=by
 intro E s O H Q I h;refine vR K N r i j f D L I h λC a s2 s4 H2 H3 fp cl m I2 f2 below hCle I4 hn qn _=> ?_;refine⟨m,hn,λh' hs' => ?_⟩;have v:∀b o,s2.heap.get? b=some o->b≠C:=λb o e=>below b (LG e);have g:=I4.free;have l:=I4.base
 have M:Un (sK X.stack) fp H2 H3 s2.heap h' :=⟨λb o e n z1 z2=>(hs'.2 b (v b o e)).trans (l.keep b o e n z1 z2),λb o e n z1 z2=>let⟨sl,z⟩:=l.slot b o e n z1 z2;⟨sl,(hs'.2 b (v b o e)).trans z⟩,l.free,λb o e z=>let⟨o',z'⟩:=l.there b o e z;⟨o',(hs'.2 b (v b o e)).trans z'⟩,l.tups,l.frzs,l.tbls⟩
 have A:=dm.but I4.hok λb u hb z=>(hs'.2 b (λw=>hb (by rw[w];exact g))).trans z;exact⟨.ref a,H3,I2.call' I4.os M A I4.bare λb hb=>⟨(f2 b hb).2.2.2.1,(f2 b hb).2.1,(f2 b hb).2.2.2.2.1,(f2 b hb).2.2.2.2.2⟩,rfl,qn⟩
end
section
variable{X:Cx}
theorem all_range(d:List Bool):(List.range d.length).all (λi=>d.getD i true)=d.all id:=by
 rw[L7,LL,LL]
 constructor
 ·intro h b f
  obtain⟨i,c,e⟩:=M7.mp f;have z:=h i (Lg.mpr c);rw[Kz,Kv c,e]at z;exact z
 ·intro h i c
  have a :=Lg.mp c;rw[Kz,Kv a];exact h _ (NE a)
theorem sR{a:List Bool}{us:List Value}(r:aN (a.map V.bl) us){i:Nat}{v:Value}(e:us[i]? =some v):v=.bool (a.getD i true):=by
 have c:=r.length;rw[Kr]at c;have g:=(Kw.mp e).1;have f:(a.map V.bl)[i]? =some (.bl (a.getD i true)):=by rw[LA,Kz,Kv (by omega)];rfl
 obtain⟨u,b,d⟩:=r.get f;rw[e]at b;cases b;exact d
theorem rf(hc:X.calm=true):bO X (.builtin "all") (λxs H Q=>∃(p:Addr)(bs:List Bool),xs=[.ref p]/\bJ X.K H p (bs.map V.bl)/\Q (.bl (bs.all id)) H):=by
 intro pins s σ H xs us Q I r h;obtain⟨p,bs,rfl,hq,q⟩:=h;obtain⟨u,rfl,rx⟩:=vals1 r;cases rx;obtain⟨its,r',pl,hz⟩:=I.list hq;have hlen:=r'.length;rw[Kr]at hlen;have hp:p<s.heap.objs.size:=by obtain⟨o,e,_⟩:=pl.isList;exact LG e
 refine call_all_walk (wpAny_pyIter_list pl.isList ?_);refine⟨s.heap.objs.size,_,_,its.toArray.size,_,_,(λi=>bs.getD i true),rfl,Walks.list (A:=X.A.in1) (I.ok.hd hc) s.heap.objs.size p (LV hp) its.toArray,⟨⟨_,LO _ rfl,rfl,rfl⟩,pl.isList.push _⟩,?_,?_⟩
 ·intro i v s' Q' E' hv hQ
  have e:=sR r' (by simpa using hv);subst e;exact L6 hQ
 ·intro h' tk hk
  refine⟨.bl (bs.all id),H,I.kept (λb o e=>hk b o (by simpa using LV (LG e)) (Ks _ e)),?_,q⟩;rw[K1,<-hlen,all_range];rfl
theorem gm:∀{a:List Str}{us:List Value},aN (a.map V.str) us->StrsAre us a
 |[],_,r=>by rw[MJ]at r;cases r;exact .nil
 |y::a,_,r=>by
  rw[K8]at r;cases r with
  |cons b c =>obtain⟨t,e⟩:=b;subst e;exact .cons y t (gm c)
theorem fG:∀(l:List (Str×Tok)),aN ((l.map (·.1)).map V.str) (strValues l)
 |[]=>.nil|p::l=>.cons ⟨p.2,rfl⟩ (fG l)
def JL(K:W.Frag):V->List V->Hp->VK->Prop:=λx vs H Q=>∃a p b,x=.str a/\vs=[.ref p]/\(bJ K H p (b.map V.str)\/cU K H p (b.map V.str))/\(b.map (·.length)).sum+b.length*a.length<=16777216/\Q (.str (Txt.join a b)) H
theorem vN:IM X "str.join" (JL X.K):=by
 intro e s m H x n v us Q I i l h;obtain⟨b,p,f,rfl,rfl,a,g,q⟩:=h;obtain⟨t,rfl⟩:=i;obtain⟨u,rfl,j⟩:=vals1 l;cases j
 rcases a with a|a
 ·obtain⟨d,r,c,_⟩:=I.list a
  exact join_list c.isList (gm (by simpa using r)) g λt' k=>⟨.str (Txt.join b f),H,I.tok _,⟨_,rfl⟩,q⟩
 ·obtain⟨d,r,c,_⟩:=I.tuple a
  exact join_tuple c (gm (by simpa using r)) g λt' k=>⟨.str (Txt.join b f),H,I.tok _,⟨_,rfl⟩,q⟩
def Fo:V->List V->Hp->VK->Prop:=λx vs H Q=>∃z y,x=.str z/\vs=[.str y]/\(y.length==0)=false/\z.length+2<=sizeLine/\∀p,H p=none->Q (.ref p) (upd H p (.lst ((Txt.split z y).map V.str)))
theorem qX:IM X "str.split" Fo:=by
 intro b s r H x C v us Q I w A h;obtain⟨z,y,rfl,rfl,n,p,q⟩:=h;obtain⟨t,rfl⟩:=w;obtain⟨u,rfl,f,rfl⟩:=vals1 A;have a:∀l i,l.map (·.1)=Txt.split z y->EP X b r Q (.ref s.heap.objs.size) {s with heap:=s.heap.push {cls:=.type "list",data:=.seq (strValues l).toArray},toks:=i}:=λl i e=>by refine⟨.ref s.heap.objs.size,_,I.laid (λb ob q=>Ks _ q) (Ky _) ?_,rfl,q _ (I.hok.fresh (Ky _))⟩;refine⟨by rw[Kr];exact LM (UM.split_le z y) p,strValues l,0,?_,LO _ rfl⟩;rw[<- e];exact fG l
 cases d:(decide (z.length<y.length)||decide (Builtin.Str.strKind z<Builtin.Str.strKind y))with
 |true=>exact Nr F.slot_str_split (NX _ _ _) F.entry_str_split (F.args_str_split_2 _ _) (meets_str_split_cannot_occur z y t f d) (a [(z,t)] s.toks (by unfold Txt.split;rw[K5 d];rfl))|false =>
  have c :¬(decide (z.length<y.length)||decide (Builtin.Str.strKind z<Builtin.Str.strKind y))=true:=by rw[d];exact K0
  cases g:(Builtin.Str.occurrences z y 0 z.length (z.length+1)).isEmpty with
  |true=>exact Nr F.slot_str_split (NX _ _ _) F.entry_str_split (F.args_str_split_2 _ _) (meets_str_split_not_found z y t f d n g) (a [(z,t)] s.toks (by unfold Txt.split;rw[LC c,K5 g];rfl))|false =>
   have j :¬(Builtin.Str.occurrences z y 0 z.length (z.length+1)).isEmpty=true:=by rw[g];exact K0
   refine Nr F.slot_str_split (NX _ _ _) F.entry_str_split (F.args_str_split_2 _ _) (meets_str_split_sep z y t f d n g (by omega) (LM (UM.qQ z y) p)) ?_
   have m:=a (numbered s.toks (Builtin.Str.partsBetween z (Builtin.Str.occurrences z y 0 z.length (z.length+1)) y.length)) (s.toks+(Builtin.Str.partsBetween z (Builtin.Str.occurrences z y 0 z.length (z.length+1)) y.length).length)
    (by rw[numbered_texts];unfold Txt.split;rw[LC c,LC j])
   rw[<- strsFrom_eq]at m;exact m
def Kn(x:Str):It:=⟨λi _=>i<x.cps.size,λi H v H' =>H' =H/\∃c,x.cps[i]? =some c/\v=.str ⟨#[c]⟩,λi _=>i=x.cps.size⟩
def iStr(a:TE):TI:=λσ H R=>a σ H λx H1=>∃z,x=.str z/\R (Kn z) H1
theorem gj{P:Program}{w:World}{K:W.Frag}{tg:Expr}{a:Addr}{n:Nat}{Pw:Nat->Value->Prop}{q:Nat->Heap->Prop}{J:It}(R:∀A:Around,A.handled=none->Walks P w A a [a] [a] n Pw q)
  (l:∀i h,q i h->∃(o:Obj)(p:String)(L:Array Value),h.get? a=some o/\o.cls=.type p/\o.data=.fields L/\["enumerate","zip","dict_itemiterator","dict_reverseitemiterator","odict_iterator","itertools.zip_longest","itertools.pairwise"].contains p=false)
  (Y:∀i H,J.go i H->i<n) (T:∀i H,J.stop i H->i=n) (hy:∀i H v,Pw i v->∃x,RelV x v/\J.yld i H x H)
  (g:∀(A:Around)(i:Nat)(s:Shared)(Q:Value->Shared->Prop)(E:Value->Shared->Prop),q i s.heap->Q (.ref a) s->wpAny (model P w) A (pyIter (.ref a)) Q E s):uX P w K tg J [a] a q where
 mem:=by simp
 obj:=λi h j b hb=>by
  have e:b=a:=by simpa using hb
  subst e;obtain⟨o,p,L,e,_,d,_⟩:=l i h j;exact⟨o,e,λv z=>by rw[d]at z;cases z⟩
 keep:=λi h h' j k=>(R {callerA with handled:=none} rfl).frame i h h' j k
 item:=by intro X C Z r u i f s σ H E I m j U;obtain⟨M,N,f2,O,D,S⟩:=m a (by simp);refine(R X.A (I.ok.hd u)).item i s _ _ (Y i H U) j λv h' tk hv st' kk=> ?_;obtain⟨x,rx,y⟩:=hy i H v hv;have I1:Inv X f σ H {s with heap:=h',toks:=tk}:=I.turned (λb o hb e=>kk b o (by simpa using hb) e) M N O D S;obtain⟨o,p,L,e,c,d,nc⟩:=l (i+1) h' st';exact⟨_,rfl,vZ e c d nc ⟨x,H,I1,rx,y,st',λb hb=>(m b hb).1⟩⟩
 done:=by intro X C Z r u i f s σ H E I m j U;obtain⟨M,N,f2,O,D,S⟩:=m a (by simp);have e:=T i H U;subst e;exact(R X.A (I.ok.hd u)).done s _ _ j λh' tk kk=>⟨rfl,I.turned (λb o hb e=>kk b o (by simpa using hb) e) M N O D S⟩
 self:=g
theorem F1{n:TE}(D:PE X l n):PI X C l (iStr n):=by
 intro a s w H R I h;refine am (D a s w H _ I h) λv s1 hpq=> ?_;obtain⟨x,j,f,A,y⟩:=hpq;obtain⟨z,rfl,q⟩:=y;obtain⟨t,rfl⟩:=A;have m:∀b∈[s1.heap.objs.size],jl X a j b:=λb hb=>by
  have e:b=s1.heap.objs.size:=by simpa using hb
  subst e;exact f.fpOk (Ky _) (f.hok.fresh (Ky _))
 have r:∀(i:Nat)(H:Hp)v,SignAt z i v->∃x,RelV x v/\(Kn z).yld i H x H:=λi H v hv=>by obtain⟨c,u,e,rfl⟩:=hv;exact⟨.str ⟨#[c]⟩,⟨_,rfl⟩,rfl,c,e,rfl⟩
 cases p:z.cps.all (·<128)with
 |false =>
  refine wpAny_pyIter_wide p ?_
  refine⟨s1.heap.objs.size,[s1.heap.objs.size],λi h=>h.IsStrIter s1.heap.objs.size "str_iterator" z t i,Kn z,j,rfl,f.kept λb o e=>Ks _ e,gj (λA hA=>Walks.strWide hA _ z t) (λi h st=> ?_) (λi H g=>g) (λi H g=>g) r (λA i s Q E st h=>wpAny_pyIter_striter_wide st h),⟨_,LO _ rfl,rfl,rfl⟩,m,q⟩
  obtain⟨o,e,c,d⟩:=st;exact⟨o,_,_,e,c,d,by decide⟩
 |true =>
  refine wpAny_pyIter_ascii p ?_
  refine⟨s1.heap.objs.size,[s1.heap.objs.size],λi h=>h.IsStrIter s1.heap.objs.size "str_ascii_iterator" z t i,Kn z,j,rfl,f.kept λb o e=>Ks _ e,gj (λA hA=>Walks.strAscii hA _ z t) (λi h st=> ?_) (λi H g=>g) (λi H g=>g) r (λA i s Q E st h=>wpAny_pyIter_striter_ascii st h),⟨_,LO _ rfl,rfl,rfl⟩,m,q⟩
  obtain⟨o,e,c,d⟩:=st;exact⟨o,_,_,e,c,d,by decide⟩
def Itc(a c:Int)(n:Nat):It:=⟨λi _=>i<n,λi H x H' =>H' =H/\x=.int (a+i*c),λi _=>i=n⟩
def Jk(a:TA):TI:=λσ H R=>a σ H λvs H1=>∃i j c:Int,vs=[.int i,.int j,.int c]/\c≠0/\c.natAbs<1073741824/\Builtin.Range.small i j c=true/\R (Itc i c (Builtin.Range.rangeSize i j c).toNat) H1
theorem na(i j c:Int):0<=Builtin.Range.rangeSize i j c:=by
 unfold Builtin.Range.rangeSize
 split
 ·split
  ·have:=Int.ediv_nonneg (a:=j-i-1) (b:=c) (by omega) (by omega)
   omega
  ·exact Int.le_refl _
 ·split
  ·by_cases d:c=0
   ·subst d
    simp
   ·have:=Int.ediv_nonneg (a:=i-j-1) (b:= -c) (by omega) (by omega)
    omega
  ·exact Int.le_refl _
theorem wu(T:Gl X "range")(U:X.mg "range"=none)(S:PA X [a,b,c] D)(L:starEach [a,b,c] X.env=(false,eval a X.env)::starEach [b,c] X.env:=by rfl)
  (x:(backTo pos (starEach [b,c] X.env)).any (·.1)=false:=by rfl):PI X M (.Call (.Name "range" p) [a,b,c] [] pos) (Jk D):=by
 intro d s C H R I h;refine Call_ (eR I T U boot_range (L0 (am (S pos d s C H _ I h) λus s1 ⟨vs,H1,I1,r1,q1⟩=> ?_) L x));obtain⟨i,j,k,e,O,y,A,q⟩:=q1;subst e;cases r1 with
 |cons r f =>
  cases f with
  |cons J f =>
   cases f with
   |cons z f =>
    cases f;obtain⟨t,rfl⟩:=r;obtain⟨n,rfl⟩:=J;obtain⟨l,rfl⟩:=z;refine call_range_3 O ?_ (.inl (PyProof.noPylong_small y));refine wpAny_pyIter_range (IsRange.new ..) A ?_;have w:Inv X d C H1 {s1 with heap:=s1.heap.push {cls:=.type "range",data:=.fields #[.int i t,.int j n,.int k l]}}:=I1.kept λb o e=>Ks _ e
    refine⟨_,[_],_,_,H1,rfl,w.kept λb o e=>Ks _ e,gj (λA hA=>Walks.range hA _ i k (Builtin.Range.rangeSize i j k).toNat) (λm h st=>⟨_,_,_,st,rfl,rfl,by decide⟩) (λm H g=>g) (λm H g=>g) (λm H v hv=> ?_) (λA m s Q E st h=>wpAny_pyIter_rangeiter st h),?_,λb hb=> ?_,q⟩
    ·obtain⟨u,rfl⟩:=hv
     exact⟨.int (i+m*k),⟨_,rfl⟩,rfl,rfl⟩
    ·have N:i+((0:Nat):Int)*k=i:=by simp
     have K:(((Builtin.Range.rangeSize i j k).toNat:Nat):Int)-((0:Nat):Int)=Builtin.Range.rangeSize i j k:=by have:=na i j k;omega
     rw[N,K];exact LO _ rfl
    ·have e:b=(s1.heap.push {cls:=.type "range",data:=.fields #[.int i t,.int j n,.int k l]}).objs.size:=by simpa using hb
     subst e;exact w.fpOk (Ky _) (w.hok.fresh (Ky _))
theorem Inv.drew{s:Shared}{fp:List Addr}{o:HO}{t':Nat}(I:Inv X pins σ H s)(hf:∀b∈fp,jl X pins H b)(k:∀b ob,b∉fp->s.heap.get? b=some ob->h'.get? b=some ob)
  (hp:s.heap.objs.size<=p) (new:au X.prog X.w (upd H p o) h' p o):Inv X pins σ (upd H p o) {s with heap:=h',toks:=t'}:=by
 have ne:∀b u,H b=some u->b≠p:=λb u e=>LV (La (I.hok.lt e) hp);have nf:∀b u,H b=some u->b∉fp:=λb u e hb=>by rw[(hf b hb).1]at e;cases e
 refine I.step (λb hb=>⟨(hf b hb).2.2.2.1,(hf b hb).2.1,(hf b hb).2.2.2.2.1,(hf b hb).2.2.2.2.2⟩) (λb ob _ _ hc e _=>k b ob hc e) (λb ob _ _ hc e _=>⟨ob.slots,k b ob hc e⟩)
  (λb ob hc e n=>by rw[aA (LV (La (LG e) hp))];exact n) (λb ob hc e=>⟨ob,k b ob hc e⟩) (λb xs e=>by rw[aA (ne b _ e)];exact e) (λb ob u e=>by rw[aA (ne b _ e)];exact e)
  (λb ps e=>⟨#[],by rw[aA (ne b _ e),e];simp⟩) (λm hm=> ?_) (λb u e=> ?_) I.bare
 ·obtain⟨ob,es,ep,ho,r⟩:=hm
  exact⟨ob,es,ep,k _ _ (λhb=>(hf _ hb).2.1 rfl) ho,r⟩
 ·by_cases hb:b=p
  ·subst hb
   rw[aD]at e;cases e;exact new
  ·rw[aA hb]at e
   refine(I.hok b u e).stay (λc v hc q=>k c v ?_ q) (λc q=>by rw[aA (ne c _ q)];exact q) (λc xs q=>by rw[aA (ne c _ q)];exact q)
   rcases hc with rfl|hc
   ·exact nf _ _ e
   ·exact nf _ _ hc
theorem Inv.drew0{i:St}{s:Shared}{h:List Addr}{t':Nat}(I:Inv X d i H s)(g:∀b∈h,jl X d H b)(k:∀b a,b∉h->s.heap.get? b=some a->l.get? b=some a) :
  Inv X d i H {s with heap:=l,toks:=t'}:=by
 have j:∀b u,H b=some u->b∉h:=λb u e hb=>by rw[(g b hb).1]at e;cases e
 refine I.step (λb hb=>⟨(g b hb).2.2.2.1,(g b hb).2.1,(g b hb).2.2.2.2.1,(g b hb).2.2.2.2.2⟩) (λb a _ _ f e _=>k b a f e) (λb a _ _ f e _=>⟨a.slots,k b a f e⟩)
  (λb a f e n=>n) (λb a f e=>⟨a,k b a f e⟩) (λb xs e=>e) (λb a u e=>e) (λb ps e=>⟨#[],by rw[e];simp⟩) (λm hm=> ?_) (λb u e=> ?_) I.bare
 ·obtain⟨a,m,o,p,r⟩:=hm
  exact⟨a,m,o,k _ _ (λhb=>(g _ hb).2.1 rfl) p,r⟩
 ·refine(I.hok b u e).stay (λc v f q=>k c v ?_ q) (λc q=>q) (λc xs q=>q)
  rcases f with rfl|f
  ·exact j _ _ e
  ·exact j _ _ f
theorem zh:eM X (binaryOp .FloorDiv) (rI (λ_ j=>0<j/\j.natAbs.log2<9000) λi j=>.int (i/j)):=opI λi j _ _ _ _ _ hc q=>by have a:=hc.1;exact floordiv_int (by omega) (by rw[Int.fdiv_eq_ediv_of_nonneg i (by omega)];exact q) (.inl (PyProof.noPylong_of_log2 hc.2))
end
theorem aE.tup{K:W.Frag}{H b :Hp}{a:Addr}{c:List V}(e:aE H b)(h:cU K H a c):cU K b a c:=by
 rcases h with(h|⟨o,h⟩)|h
 ·exact .inl (.inl (e _ _ h))
 ·exact .inl (.inr ⟨o,e _ _ h⟩)
 ·exact .inr h
theorem aM(h:H p=none)(o:HO):aE H (upd H p o):=λb u q=>by rw[aA (aG q h)];exact q
set_option tactic.hygienic true in
theorem aE.upd{H H' :Hp}{D:Addr}{o:HO}(e:aE H H')(h:H D=none):aE H (upd H' D o):=fun b u q=>by rw[aA (aG q h)];exact e b u q
def dZ(z:Str):List V:=z.cps.toList.map λc=>V.str ⟨#[c]⟩
theorem kZ(z:Str):(dZ z).length=z.length:=by unfold dZ;rw[Kr,LZ];rfl
def Eb(n:Nat):List V:=(List.range n).map λi=>V.int (i:Nat)
section
variable{X:Cx}{N' :List Str}{scope:Scope}{elt:Expr}{σ:St}{H1:Hp}{J:It}{xs:List V}
theorem rm(h:r.length+1=N'.length) :
  ((bX (none::r) a).set 0 (some x)).length=N'.length/\∀(j:Nat)(v:V),(bX (none::r) a)[j]? =some (some v)->((bX (none::r) a).set 0 (some x))[j]? =some (some v):=by
 refine⟨by rw[Lk];simp[bX,h],λj v e=> ?_⟩;cases j with
 |zero=>simp[bX]at e|succ j=>simpa [bX]using e
end
structure eh(K:W.Frag)(mg:Str->Option Value)(x:Str)(st:Stmt)(ps:List Str)(f:Addr)(fd:FuncData):Prop where
 fn:IN K x x st f fd
 nm:mg x=some (.ref f)
 bd:Binds K fd ps []
theorem ET{n:String}(d:Gl X x)(a:X.mg x=none)(e:bootBuiltins x=some (.type n))(c:x≠"__name__":=by decide)(b:(x==("__debug__":Str))=false:=by decide):PE X (.Name x pos) (tC (.ty n)) := Ck d a e rfl c b
section
variable{K:W.Frag}
theorem fT(n:String):W.kitOne K (.type n) (.type n)=some true:=by unfold W.kitOne;rw[K5 (by simp)]
end
def d9(n:Int):Bool:=decide (1<=n)&&decide (n<=8)
def Je:V->Nat
 | .str z=>z.length|_=>0
def ut(K:W.Frag):Sp:=λvs H Q _=>∃(a:Addr)(b:List Int),vs=[.ref a]/\bJ K H a (b.map V.int)/\b.length<=63/\∀c,Q (.bl true) c
theorem zQ{α:Type}(l:List α):(List.range l.length).filterMap (l[·]?)=l:=by
 have h:=StrLaws.picks l l.length 0 (by omega);rw[List.drop_zero,L8]at h;have e:(List.range l.length).map (λk=>0+k)=List.range l.length:=by rw[show(λk:Nat=>0+k)=id from by funext k;simp];simp
 rw[e]at h;exact h
theorem wm(n:Nat):sliceRange ((n:Int)-1) (-1) (-1)=(List.range n).map λk=>n-1-k:=by
 unfold sliceRange;have c:((if(n:Int)-1> -1 then(n-1- -1- -1-1)/(- -1)else 0):Int).toNat=n:=by
  have d:(- -1:Int)=1:=rfl;rw[d,Int.ediv_one]
  split<;>omega
 simp only[show¬((-1:Int)>0)by decide,NM,c];refine Lr λk hk=> ?_;omega
theorem rK{a b:Type}{f g:a->Option b}:∀(l:List a),(∀x∈l,f x=g x)->l.filterMap f=l.filterMap g
 |[],_=>rfl|x::l,h=>by rw[NK,NK,h x K6,rK l λy hy=>h y (Kx _ hy)]
theorem qD{b:Type}(l:List b):(sliceRange ((l.length:Int)-1) (-1) (-1)).filterMap (l[·]?)=l.reverse:=by rw[wm,List.filterMap_map];have e:=zQ l.reverse;rw[List.length_reverse]at e;refine Eq.trans ?_ e;refine rK _ λk hk=> ?_;have a :=Lg.mp hk;show l[l.length-1-k]? =l.reverse[k]?;rw[List.getElem?_reverse a]
section
variable{X:Cx}{e st:Expr}{te ts:TE}{pos p2:Pos}
def RvR(X:Cx)(r:V->Hp->VK->Prop):Prop :=
 ∀(a:List (Addr×Obj))(s:Shared)(b:St)(H:Hp)(x:V)(v:Value)(t:Tok)(c:Addr)(Q:VK),Inv X a b H s->RelV x v->s.heap.IsSliceOf c .none .none (.int (-1) t)->r x H Q -> ∃T d,typeLookup (.type T) "__getitem__"=pure (some (.builtin d))/\s.TypeIs v T/\wpAny (model X.prog X.w) X.A (getItem v (.ref c)) (EP X a b Q) X.xe s
def tRev(r:V->Hp->VK->Prop)(b a:TE):TE:=λσ H Q=>b σ H λx H1=>a σ H1 λy H2=>y=.int (-1)/\r x H2 Q
theorem F5(l:RvR X r)(j:PE X e te)(m:PE X st ts):PE X (.Subscript e (.Slice none none (some st) p2) pos) (tRev r te ts):=by intro a s b H Q I h;refine Subscript_ (am (j a s b H _ I h) λv s1 hpq=> ?_);obtain⟨x,n,p,i,d⟩:=hpq;refine wpAny_Slice ?_;refine LS (LS ?_);refine am (m a s1 b n _ p d) λu s2 hpq=> ?_;obtain⟨y,c,f,E,g,o⟩:=hpq;subst g;obtain⟨t,rfl⟩:=E;have C:Inv X a b c {s2 with heap:=s2.heap.push {cls:=.type "slice",data:=.fields #[.none,.none,.int (-1) t]}}:=f.kept λb ob q=>Ks _ q;obtain⟨T,J,u,D,z⟩:=l a {s2 with heap:=s2.heap.push {cls:=.type "slice",data:=.fields #[.none,.none,.int (-1) t]}} b c x v t s2.heap.objs.size Q C i (Heap.IsSliceOf.new ..) o;exact tail_any D u z (by with_unfolding_all rfl)
def rRvL(K:W.Frag):V->Hp->VK->Prop:=λx H Q=>∃a b,x=.ref a/\bJ K H a b/\∀p,H p=none->Q (.ref p) (upd H p (.lst b.reverse))
theorem CC:RvR X (rRvL X.K):=by
 intro c s p H x v t u Q I l i h;obtain⟨a,m,rfl,j,q⟩:=h;cases l;obtain⟨b,r,g,n⟩:=I.list j;have d:=r.length;refine⟨"list",_,slot_list_getitem.lookup,g.isList.typeIs,?_⟩;refine wpAny_getItem_list_slice g.isList i .none .none (.int (-1) t) (by simp) ?_ (by rw[K1]<;>omega);have e:slicePick b.toArray none none (some (-1))=b.reverse.toArray:=by
  unfold slicePick sliceBounds;simp only[Mj,show¬((-1:Int)>0)by decide,NM,K1];have z:=qD b;have f:(λ(k:Nat)=>b.toArray[k]?)=λk=>b[k]? :=by funext k;simp
  rw[f,z]
 rw[e];refine⟨.ref s.heap.objs.size,_,I.laid (λb ob q=>Ks _ q) (Ky _) ?_,rfl,q _ (I.hok.fresh (Ky _))⟩;exact⟨by rw[List.length_reverse];exact n,_,0,r.reverse,LO _ rfl⟩
def rRvS:V->Hp->VK->Prop:=λx H Q=>∃z,x=.str z/\z.length<=sizeLine/\Q (.str ⟨z.cps.toList.reverse.toArray⟩) H
theorem Fd:RvR X rRvS:=by
 intro a s i H x v t j Q I d b h;obtain⟨z,rfl,g,q⟩:=h;obtain⟨c,rfl⟩:=d;refine⟨"str",_,slot_str_getitem.lookup,NX _ _ _,?_⟩;refine Ms (l:=none) (u:=none) (st:=some (-1,t)) b rfl ?_;have e:sliceMade z c none none (some (-1,t))=.str ⟨z.cps.toList.reverse.toArray⟩:=by
  unfold sliceMade;rw[LC (by simp)];unfold slicePicked Builtin.Str.strSliceIndices;simp only[Option.map_none,Lj,Mj,show¬((-1:Int)>0)by decide,NM];have y:=qD z.cps.toList;have f:(λ(k:Nat)=>z.cps[k]?)=λk=>z.cps.toList[k]? :=by funext k;simp
  have l:z.cps.toList.length=z.length:=by rw[LZ];rfl
  rw[l]at y;rw[f,y]
 rw[e];refine⟨?_,⟨.str ⟨z.cps.toList.reverse.toArray⟩,H,I.tok _,⟨_,rfl⟩,q⟩⟩;show z.cps.toList.reverse.toArray.size<=sizeLine;rw[K1,List.length_reverse,LZ];exact g
def CS:V->List V->Hp->VK->Prop:=λx vs H Q=>∃(l:Addr)(a:List V)(i:Int)(y:V),x=.ref l/\vs=[.int i,y]/\H l=some (.lst a)/\0<=i/\i<=a.length/\a.length<sizeLine/\Q .non (upd H l (.lst (a.take i.toNat++y::a.drop i.toNat)))
theorem ma:MtM X "list.insert" CS:=by
 intro b s o H x p v us Q I g f h;obtain⟨l,C,i,y,rfl,rfl,d,m,D,E,q⟩:=h;cases g;obtain⟨u,c,rfl,⟨t,rfl⟩,j⟩:=f.two;obtain⟨z,a,n,r,A,e⟩:=I.lstM d;have w:=Lp;refine Nr F.slot_list_insert ⟨_,e,rfl⟩ F.entry_list_insert (F.args_list_insert_3 _ _ _) (AutoListH.list_insert_list_int_val_1 l a.toArray n i t c ?_ (by rw[K1];omega)) ⟨e,?_⟩
 ·unfold Builtin.List.listFitsIndex
  simp;omega
 ·refine⟨.non,_,I.lset d e ?_ ((r.take i.toNat).append (.cons j (r.drop i.toNat))) ?_,rfl,q⟩
  ·have k:(if i<0 then(i+((a.toArray.size:Nat):Int)).toNat else min i.toNat a.toArray.size)=i.toNat:=by
    rw[LC (by omega),K1];omega
   simp only[k];simp;rw[Mr (by simp)]
  ·simp only[K7,Ln,LK,ML]
   omega
end
section
variable{κ:Type}[DecidableEq κ]
def el(a:List (κ×V))(k:κ):Option V:=(a.find? λkv=>decide (kv.1=k)).map (·.2)
def dS(a:List (κ×V))(k:κ)(v:V):List (κ×V) :=
 if(a.any λkv=>decide (kv.1=k))=true then a.map (λkv=>if kv.1=k then(kv.1,v)else kv)else a++[(k,v)]
theorem iH{p:κ×V}{k:κ}(e:p.1=k):el (p::r) k=some p.2:=by simp[el,e]
theorem iI{p:κ×V}{k:κ}(e:¬p.1=k):el (p::r) k=el r k:=by simp[el,e]
theorem pX(k:κ):∀a:List (κ×V),(a.any λkv=>decide (kv.1=k))=(el a k).isSome
 |[]=>rfl|p::r=>by
  rw[Mw]
  by_cases e:p.1=k;simp only[iH e,LU e,Bool.true_or,Option.isSome_some];rw[iI e,Ld e,Bool.false_or];exact pX k r
theorem fS(a:List (κ×V))(k:κ)(v:V):(dS a k v).length<=a.length+1:=by
 unfold dS
 split;rw[Kr];omega;rw[K7,LK,List.length_nil];omega
theorem iE.isSome_eq{o:Option V}(r:iE o u):o.isSome=u.isSome:=by
 cases o with
 |none=>cases u with
  |none=>rfl|some _=>exact(show False from r).elim
 |some _=>cases u with
  |none=>exact(show False from r).elim|some _=>rfl
theorem iE.getD{o:Option V}(r:iE o u)(b:RelV d a):RelV (o.getD d) (u.getD a):=by
 cases o with
 |none=>cases u with
  |none=>exact b|some _=>exact(show False from r).elim
 |some _=>cases u with
  |none=>exact(show False from r).elim|some _=>exact r
theorem KV.val(r:KV a f)(k:κ):iE (el a k) (valueAt f k):=by
 induction r with
 |nil=>exact True.intro| @cons p q l c h t j =>
  obtain⟨g,i⟩:=h
  by_cases e:p.1=k
  ·have d :=g.symm.trans e
   have b:valueAt (q::c) k=some q.2:=by simp[valueAt,d]
   rw[iH e,b];exact i
  ·have d :¬q.1=k:=λz=>e (g.trans z)
   have b:valueAt (q::c) k=valueAt c k:=by simp[valueAt,d]
   rw[iI e,b];exact j
theorem KV.any(r:KV a b)(k:κ):(a.any λkv=>decide (kv.1=k))=b.any λkv=>decide (kv.1=k):=by
 induction r with
 |nil=>rfl|cons h t c=>rw[Mw,Mw,c,h.1]
theorem KV.repl(r:KV a c)(k:κ)(f:RelV y u) :
  KV (a.map λkv=>if kv.1=k then(kv.1,y)else kv) (c.map λkv=>if kv.1=k then(kv.1,u)else kv):=by
 induction r with
 |nil=>exact .nil| @cons p q j i h t g =>
  rw[K8,K8];refine .cons ?_ g;obtain⟨b,d⟩:=h
  by_cases e:p.1=k;rw[K5 e,K5 (b.symm.trans e)];exact⟨b,f⟩;rw[LC e,LC (λz=>e (b.trans z))];exact⟨b,d⟩
theorem KV.put(r:KV a b)(k:κ)(c:RelV y u):KV (dS a k y) (stored b k u):=by
 unfold dS stored;rw[r.any k]
 by_cases e:(b.any λkv=>decide (kv.1=k))=true
 ·rw[K5 e,K5 e];exact r.repl k c
 ·rw[LC e,LC e];exact Paired.snoc r ⟨rfl,c⟩
theorem KV.length{a:List (κ×V)}(r:KV a b):a.length=b.length:=Paired.length r
end
theorem mi{P:Program}{k:ah}(r:RelV (kV k) u):(ac P w).is k u=true:=by
 cases k with
 |inl i=>obtain⟨t,e⟩:=(show∃t,u=Value.int i t from r);subst e;exact qe P w i t
 |inr x=>obtain⟨t,e⟩:=(show∃t,u=Value.str x t from r);subst e;exact qZ P w x t
theorem mj{P:Program}{w:World}:∀{a:List ah}{us:List Value},aN (a.map kV) us->ItemsAre (ac P w) a us
 |[],_,r=>by rw[MJ]at r;cases r;exact .nil|k::a,_,r=>by
  rw[K8]at r;cases r with
  |cons h t=>exact .cons (mi h) (mj t)
abbrev KT(H:Hp):List (List ah×V)->List (List ah×Addr×Value)->Prop:=Paired λp q=>p.1=q.1/\H q.2.1=some (.tup (p.1.map kV))/\RelV p.2 q.2.2
theorem KT.val(r:KT H a f)(k:List ah):iE (el a k) ((atKey f k).map (·.2)):=by
 induction r with
 |nil=>exact True.intro| @cons p q l c h t j =>
  obtain⟨g,_,i⟩:=h
  by_cases e:p.1=k
  ·have d :=g.symm.trans e
   have b:atKey (q::c) k=some q.2:=by simp[atKey,d]
   rw[iH e,b];exact i
  ·have d :¬q.1=k:=λz=>e (g.trans z)
   have b:atKey (q::c) k=atKey c k:=by simp[atKey,d]
   rw[iI e,b];exact j
theorem KT.repl(r:KT H a d)(k:List ah)(f:RelV y u) :
  KT H (a.map λkv=>if kv.1=k then(kv.1,y)else kv) (d.map (putAt k u)):=by
 induction r with
 |nil=>exact .nil| @cons p q j l h t i =>
  rw[K8,K8];refine .cons ?_ i;obtain⟨b,c,g⟩:=h;unfold putAt
  by_cases e:p.1=k;rw[K5 e,K5 (b.symm.trans e)];exact⟨b,c,f⟩;rw[LC e,LC (λz=>e (b.trans z))];exact⟨b,c,g⟩
theorem KT.put(r:KT H a c)(k:List ah)(f:H b=some (.tup (k.map kV)))(d:RelV y u) :
  KT H (dS a k y) (storedH c k b u):=by
 have e:(a.any λkv=>decide (kv.1=k))=(atKey c k).isSome:=by rw[pX,(r.val k).isSome_eq,Option.isSome_map]
 unfold dS storedH;rw[e]
 by_cases q:(atKey c k).isSome=true;rw[K5 q,K5 q];exact r.repl k d;rw[LC q,LC q];exact Paired.snoc r ⟨rfl,f,d⟩
theorem KT.keeps(r:KT H a d)(f:∀b e,H b=some (.tup e)->c b=some (.tup e)):KT c a d := Paired.mapP r λ_ _ z=>⟨z.1,f _ _ z.2.1,z.2.2⟩
section
variable{P:Program}{w:World}{H:Hp}{h:Heap}{a:Addr}
theorem EO(b:dm P w H h)(e:Rd H a u):au P w H h a u:=e.ok b
theorem jr(d:dm P w H h)(e:Rd H a (.dK b)):b.length<=sizeLine/\(a==sysModules)=false/\∃c,KV b c/\h.DictOf (ac P w) a c := show au P w H h a (.dK b)from EO d e
theorem m7(d:dm P w H h)(e:H a=some (.dK b)):b.length<=sizeLine/\(a==sysModules)=false/\∃c,KV b c/\h.DictOf (ac P w) a c:=jr d (.inl e)
theorem lC(f:dm P w H h)(e:H a=some (.tup (b.map kV))):(tupleKind (ac P w)).is h b a:=by obtain⟨_,c,r,o,g,d,n,i,_⟩:=(show au P w H h a (.tup (b.map kV))from f a _ e);exact⟨o,c.toArray,n,g,d,i,by simpa using mj r⟩
theorem mz(i:dm P w H h)(e:Rd H a (.dT b)):b.length<=sizeLine/\(a==sysModules)=false /\ ∃d,KT H b d/\h.DictOfH (tupleKind (ac P w)) a d:=by
 obtain⟨z,y,d,r,o,n,v,A,j,C,s,u⟩:=(show au P w H h a (.dT b)from EO i e);refine⟨z,y,d,r,o,n,v,A,j,C,s,λx c=> ?_,u⟩;have f:∀{l:List (List ah×V)}{m:List (List ah×Addr×Value)},KT H l m->∀x∈m,(tupleKind (ac P w)).is h x.1 x.2.1:=by
  intro l m q
  induction q with
  |nil=>intro x c;exact nomatch c| @cons p q E I g t D =>
   intro x c
   rcases LB.mp c with e|c
   ·subst e
    exact lC i (by rw[<- g.1];exact g.2.1)
   ·exact D x c
 exact f r x c
theorem Jv(d:dm P w H h)(e:H a=some (.dT b)):b.length<=sizeLine/\(a==sysModules)=false /\ ∃c,KT H b c/\h.DictOfH (tupleKind (ac P w)) a c:=mz d (.inl e)
end
def gR(H:Hp)(a:Addr)(y:V)(r:Option V):Prop :=
 (∃c k,Rd H a (.dK c)/\y=kV k/\r=el c k)\/∃c k b,Rd H a (.dT c)/\y=.ref b/\H b=some (.tup (k.map kV))/\r=el c k
def r9(H:Hp)(a:Addr)(y v:V)(d :Hp):Prop :=
 (∃c k,H a=some (.dK c)/\y=kV k/\c.length<sizeLine/\d =upd H a (.dK (dS c k v))) \/ ∃c k b,H a=some (.dT c)/\y=.ref b/\H b=some (.tup (k.map kV))/\c.length<sizeLine/\d =upd H a (.dT (dS c k v))
theorem gR.k{k:ah}(e:H a=some (.dK b)):gR H a (kV k) (el b k):=.inl ⟨b,k,.inl e,rfl,rfl⟩
theorem r9.k{k:ah}{v:V}(e:H a=some (.dK b))(c:b.length<sizeLine):r9 H a (kV k) v (upd H a (.dK (dS b k v))):=.inl ⟨b,k,e,rfl,c,rfl⟩
section
variable{X:Cx}{pins:List (Addr×Obj)}{σ:St}{H:Hp}{s:Shared}{a:Addr}{y v:V}{u r:Value}{o:Option V}{A:Around}{E:Value->Shared->Prop}
theorem Inv.big(I:Inv X pins σ H s):sysModules<s.heap.objs.size:=by have h:=(I.mod.glob.keeps I.bk).lt;exact MZ (by decide) h
theorem xR(D:A.units+1<cLine)(I:Inv X pins σ H s)(g:gR H a y (some v))(C:RelV y u)(h:∀f x,Inv X pins σ H x ->RelV v f ->Q f x) :
  wpAny (model X.prog X.w) A (getItem (.ref a) u) Q E s:=by
 rcases g with⟨m,k,e,i,l⟩|⟨m,k,b,e,i,L,l⟩
 ·subst i
  obtain⟨z,M,J,c,q⟩:=jr I.hok e;obtain⟨f,n,d⟩:=iE.some_of (by rw[l];exact c.val k);exact wpAny_getItem_of (mi C) q.mapOf n (h f _ (I.tok _) d)
 ·subst i
  cases(show u=Value.ref b from C);obtain⟨z,M,N,c,q⟩:=mz I.hok e;obtain⟨f,n,d⟩:=iE.some_of (by rw[l];exact c.val k);obtain⟨p,K,j⟩:=Option.map_eq_some_iff.mp n;refine wpAny_getItem_heap (OE D) (lC I.hok L) q K ?_;rw[j];exact h f _ (I.tok _) d
theorem Dm(p:A.units+1<cLine)(I:Inv X pins σ H s)(g:gR H a y o)(n:RelV y u)(h:∀m,Inv X pins σ H m ->Q (.bool (!o.isSome)) m) :
  wpAny (model X.prog X.w) A (compareOp .NotIn u (.ref a)) Q E s:=by
 rcases g with⟨f,k,e,d,l⟩|⟨f,k,b,e,d,x,l⟩
 ·subst d
  obtain⟨z,i,C,c,j⟩:=jr I.hok e;refine wpAny_notIn_of (mi n) i j.mapOf ?_;rw[<- (c.val k).isSome_eq,<-l];exact h _ (I.tok _)
 ·subst d
  cases(show u=Value.ref b from n);obtain⟨z,i,D,c,j⟩:=mz I.hok e;refine wpAny_notIn_heap (OE p) (lC I.hok x) i j ?_;have q:=(c.val k).isSome_eq;rw[Option.isSome_map]at q;rw[<- q,<-l];exact h _ (I.tok _)
theorem og(I:Inv X pins σ H s)(i:IL (H a))(g:Heap.SameBut a s.heap c)(j:∃q,c.get? a=some q)(d:au X.prog X.w (upd H a f) c a f) :
  Inv X pins σ (upd H a f) {s with heap:=c,toks:=h} :=
 I.write i (.inl rfl) (λb q hb z=>(g.2 b hb).trans z) j d
theorem uG{P:Program}(z:b.length<=sizeLine)(f:(a==sysModules)=false)(c:KV b d)(h:e.DictOf (ac P w) a d) :
  au P w g e a (.dK b):=⟨z,f,d,c,h⟩
theorem xQ(O:A.units+1<cLine)(I:Inv X pins σ H s)(g:r9 H a y v C)(L:RelV y u)(D:RelV v r)(h:∀J,Inv X pins σ C J ->Q () J) :
  wpAny (model X.prog X.w) A (setItem (.ref a) u r) Q E s:=by
 rcases g with⟨d,k,e,i,l,j⟩|⟨d,k,b,e,i,K,l,j⟩
 ·subst i j
  obtain⟨z,n,T,c,p⟩:=m7 I.hok e;have x:T.length<=sizeLine:=by rw[<- c.length];exact z
  have m:(dS d k v).length<=sizeLine:=by have:=fS d k v;omega
  refine wpAny_setItem_pairs (mi L) p λh' dd' hs=>h _ ?_;have N:∃q,h'.get? a=some q:=let⟨q,_,_,f,_⟩:=dd';⟨q,f⟩
  exact og I (by rw[e];exact True.intro) hs N (uG m n (c.put k D) dd')
 ·subst i j
  cases(show u=Value.ref b from L);obtain⟨z,n,Y,c,p⟩:=Jv I.hok e;have x:Y.length<=sizeLine:=by rw[<- Paired.length c];exact z
  have m:(dS d k v).length<=sizeLine:=by have:=fS d k v;omega
  refine wpAny_setItem_heap (OE O) (lC I.hok K) p λh' dd' hs=>h _ ?_;obtain⟨q,S,W,f,M,Z,R,_,U⟩:=dd';refine og I (by rw[e];exact True.intro) hs ⟨q,f⟩ ⟨m,n,_,(c.put k K D).keeps λc ys ec=> ?_,q,S,W,f,M,Z,R,U⟩;rw[aA (Jb ec e (λz=>nomatch z))];exact ec
end
section
variable{X:Cx}{pins:List (Addr×Obj)}{σ:St}{H:Hp}{s:Shared}{a:Addr}{kvs:List (ah×V)}{k:ah}{u:Value}{A:Around}{E:Value->Shared->Prop}
theorem Jw(I:Inv X pins σ H s)(e:Rd H a (.dK kvs))(h:∀t c,Inv X pins σ H c ->Q (.int kvs.length t) c):wpAny (model X.prog X.w) A (call (.builtin "len") [.ref a]) Q E s:=by obtain⟨z,d,g,b,f⟩:=jr I.hok e;refine call_len_dict d f (by rw[<- b.length];rw[Lp]at z;omega) ?_;rw[<- b.length];exact h _ _ (I.tok _)
end
def Hu(i:Expr):Prop:=∀b a,subscripted i false b a=operate [b,a] (getItem b a)
theorem Bx{A:Around}{s:Shared}{m:String}
  (j:typeLookup (.type T) "__getitem__"=pure (some (.builtin m))) (l:Hu b)
  (h:wpAny (model a w) A (eval c f) (λo s₁=>wpAny (model a w) A (eval b f) (λi s₂=>s₂.TypeIs o T/\wpAny (model a w) A (getItem o i) Q E s₂) E s₁) E s) :
  wpAny (model a w) A (eval (.Subscript c b pos) f) Q E s:=by
 refine Subscript_ (MF h (λo s₁ h₁=>MF h₁ (λi s₂ d=> ?_) λ_ _ x=>x) λ_ _ x=>x);obtain⟨g,d⟩:=d;refine Ku ?_;refine Ku (wpAny_specialOf g j ?_);have e:wpAny (model a w) A (subscripted b false o i) (λr s₃=>wpAny (model a w) A (letTemporaryGo c o r >>= λ_=>pure r) Q E s₃) E s₂:=by rw[l o i];exact wpAny_operating (MF d (λr s₃ h₃=>Ku (wpAny_letTemporaryGo (LS h₃))) λ_ _ x=>x)
 first
  |exact LS (Ku e)
  |exact Ku (LS (Ku e))
  |exact Ku e
theorem rT{s:Shared}{o:Option V}(I:Inv X c h H s)(g:gR H a y o):s.TypeIs (.ref a) "dict":=by
 rcases g with⟨f,k,e,_,_⟩|⟨f,k,b,e,_,_,_⟩
 ·obtain⟨_,_,i,_,d⟩:=jr I.hok e
  exact d.typeIs
 ·obtain⟨_,_,j,_,d⟩:=mz I.hok e
  exact d.typeIs
def Ij(c b:TE):TE:=λσ H Q=>c σ H λx H1=>b σ H1 λy H2=>∃a v,x=.ref a/\gR H2 a y (some v)/\Q v H2
def Bw(b c:TE):TE:=λσ H Q=>b σ H λy H1=>c σ H1 λx H2=>∃a o,x=.ref a/\gR H2 a y o/\Q (.bl (!o.isSome)) H2
def JG(c d e:TE):TS:=λD σ H=>e σ H λv H1=>c σ H1 λx H2=>d σ H2 λy H3=>∃a b,x=.ref a/\r9 H3 a y v b/\D.nx σ b
section
variable{X:Cx}{o i e value:Expr}{pos pos' tpos:Pos}{td ty tv:TE}
theorem vC(j:X.A.units+1<cLine)(r:PE X o td)(n:PE X i ty)(l:Hu i):PE X (.Subscript o i pos) (Ij td ty):=by intro b s c H Q I h;refine Bx PySem.F.slot_dict_getitem.lookup l (am (r b s c H _ I h) λu s1 ⟨x,H1,I1,rx,q1⟩=>am (n b s1 c H1 _ I1 q1) λiv s2 hpq=> ?_);obtain⟨y,f,d,q,a,v,p,g,m⟩:=hpq;subst p;obtain rfl:u=Value.ref a:=rx;exact⟨rT d g,xR j d g q λw' s3 I3 rw' =>⟨v,f,I3,rw',m⟩⟩
theorem mV(f:X.A.units+1<cLine)(m:PE X i ty)(q:PE X o td):PC X .NotIn i o (Bw ty td):=by intro b s c H Q I h;refine am (m b s c H _ I h) λiv s1 ⟨y,H1,I1,ry,q1⟩=>am (q b s1 c H1 _ I1 q1) λu s2 hpq=> ?_;obtain⟨x,r,d,p,a,l,n,g,j⟩:=hpq;subst n;obtain rfl:u=Value.ref a:=p;exact Dm f d g ry λs3 I3=>⟨.bl (!l.isSome),r,I3,rfl,j⟩
theorem kG(m:X.A.units+1<cLine)(j:PE X o td)(d:PE X i ty)(l:PE X value tv)(f:swapsWith value (some (.Subscript o i pos')) pos.line X.env=pure false) :
  PS X (.Assign [.Subscript o i pos'] value pos) (JG td ty tv):=by
 intro b s c H D I h;refine wpAny_Assign_Subscript (am (l b s c H _ I h) λr s1 ⟨v,H1,I1,rv,q1⟩=>am (j b s1 c H1 _ I1 q1) λu s2 ⟨x,H2,I2,rx,q2⟩=>am (d b s2 c H2 _ I2 q2) λiv s3 ⟨y,H3,I3,ry,a,H4,ex,g,q3⟩=> ?_) f;subst ex;obtain rfl:u=Value.ref a:=rx;exact xQ m I3 g ry rv λs4 I4=>⟨c,H4,I4,q3⟩
end
theorem rR{P:Program}(h:Heap)(a:sysModules<h.objs.size):au P w H (h.push {cls:=.type "dict",data:=.dict #[]}) h.objs.size (.dK []) := ⟨LY _,beq_eq_false_iff_ne.mpr (MC (LV a)),[],.nil,Heap.DictOf.new h⟩
def FH:TE:=λ_ H Q=>∀p,H p=none->Q (.ref p) (upd H p (.dK []))
section
variable{X:Cx}{pos:Pos}
theorem iU:PE X (.Dict [] [] pos) FH:=λpins s σ H Q I h =>
 wpAny_Dict_empty ⟨.ref s.heap.objs.size,_,I.laid (λ_ _ q=>Ks _ q) (Ky _) (rR s.heap I.big),rfl,h _ (I.hok.fresh (Ky _))⟩
end
def sh:List (TE×TE)->St->Hp->(List (V×V)->Hp->Prop)->Prop
 |[],_,H,Q=>Q [] H|(tk,tv)::r,σ,H,Q=>tk σ H λx H1=>tv σ H1 λy H2=>sh r σ H2 λps H3=>Q ((x,y)::ps) H3
abbrev VV:List (V×V)->List (Value×Value)->Prop:=Paired λp q=>RelV p.1 q.1/\RelV p.2 q.2
def PPs(X:Cx)(pos:Pos)(c:List (Option Expr))(a:List Expr)(e:List (TE×TE)):Prop :=
 ∀(b:List (Addr×Obj))(s:Shared)(d:St)(H:Hp)(Q:List (V×V)->Hp->Prop),Inv X b d H s->sh e d H Q -> wpAny (model X.prog X.w) X.A (evalPairs (pairTrees c a X.env pos)) (λvs s' =>∃g f,Inv X b d f s' /\VV g vs/\Q g f) X.xe s
theorem Ce:PPs X pos [] [] []:=λpins s σ H Q I h=>pairTrees_nil_walk ⟨[],H,I,.nil,h⟩
theorem zO{k v:Expr}(i:PE X k e)(f:PE X v d)(g:PPs X pos c b a) :
  PPs X pos (some k::c) (v::b) ((e,d)::a):=λpins s σ H Q I h =>
 pairTrees_cons_walk (am (i pins s σ H _ I h) λu s1 ⟨x,H1,I1,rx,q1⟩=>am (f pins s1 σ H1 _ I1 q1) λw2 s2 ⟨y,H2,I2,ry,q2⟩ =>am (g pins s2 σ H2 _ I2 q2) λws s3 ⟨ps,H3,I3,rel,q3⟩=>⟨(x,y)::ps,H3,I3,.cons ⟨rx,ry⟩ rel,q3⟩)
def gw(b a:List (ah×V)):List (ah×V):=a.foldl (λacc kv=>dS acc kv.1 kv.2) b
theorem KV.merge:∀{a:List (ah×V)}{d:List (ah×Value)}{b:List (ah×V)}{c:List (ah×Value)},KV a d->KV b c->KV (gw b a) (merged c d):=by
 intro a d b c r;unfold KV at r
 induction r generalizing b c with
 |nil=>intro q;exact q| @cons p q j i h t g =>
  intro f;have e:KV (dS b p.1 p.2) (stored c q.1 q.2):=by have:=f.put p.1 h.2;rw[<- h.1];exact this
  exact g e
theorem gY:∀(b a:List (ah×V)),(gw a b).length<=a.length+b.length
 |[],a=>by show a.length<=a.length+0;omega|p::r,a=>by have c:=gY r (dS a p.1 p.2);have d:=fS a p.1 p.2;show(gw (dS a p.1 p.2) r).length<=_;rw[LK];omega
theorem lV{P:Program}{w:World}:∀{d:List (ah×V)}{f:List (Value×Value)},VV (d.map λkv=>(kV kv.1,kv.2)) f->∃e,Carries (ac P w) f e/\KV d e
 |[],_,r=>by rw[MJ]at r;cases r;exact⟨[],True.intro,.nil⟩|p::d,_,r=>by
  rw[K8]at r;cases r with
  | @cons a b i j h t =>obtain⟨e,c,q⟩:=lV t;obtain⟨b1,g⟩:=b;exact⟨(p.1,g)::e,⟨mi h.1,rfl,c⟩,.cons ⟨rfl,h.2⟩ q⟩
def Ii(b:List (TE×TE)):TE:=λσ H Q=>∀p,H p=none->sh b σ (upd H p (.dK [])) λps H2=>H2 p=some (.dK [])/\∃a:List (ah×V),ps=a.map (λkv=>(kV kv.1,kv.2))/\a.length<=15/\Q (.ref p) (upd H2 p (.dK (gw [] a)))
theorem Cj{i:List (TE×TE)}(h:PPs X pos b d i)(f:b.all (·.isSome)=true)(D:b.length=d.length)(p:b≠[])
  (m:b.length<=15):PE X (.Dict b d pos) (Ii i):=by
 intro g s r H Q I q;have N:=I.hok.fresh (Ky s.heap.objs.size);have x:=I.laid (t' :=s.toks) (λ_ _ q=>Ks _ q) (Ky _) (rR s.heap I.big);refine wpAny_Dict_walk (knd:=ac X.prog X.w) f D p m (am (h g _ r _ _ x (q _ N)) λws s2 hpq=> ?_);obtain⟨S,T,n,l,e,j,C,R,v⟩:=hpq;subst C;obtain⟨K,c,J⟩:=lV l;obtain⟨z,E,y,A,L⟩:=m7 n.hok e;cases A;refine⟨K,c,L,λh' dd' hs=>⟨.ref s.heap.objs.size,_,?_,rfl,v⟩⟩;have O:(gw [] j).length<=sizeLine:=by have M:=gY j [];rw[List.length_nil]at M;rw[Lp];omega
 have u:∃q,h'.get? s.heap.objs.size=some q:=let⟨q,_,_,hq,_⟩:=dd';⟨q,hq⟩
 exact og n (by rw[e];exact True.intro) hs u (uG O E (J.merge .nil) dd')
structure M2(X:Cx)(o:Expr)(m:Str)(apos:Pos)(e f:Expr)(cpos:Pos):Prop where
 base:attributeBase o m X.env (eval o X.env)=eval o X.env
 few:((backTo cpos (starEach [e,f] X.env)).all (fun x=> !x.1)&&(backToKw cpos (keywordEach [] X.env)).all (fun x=>x.1.isSome)
  && decide (([e,f]:List Expr).length+([]:List Keyword).length+(if([]:List Keyword).isEmpty then 0 else 1)<30))=true
 line:(apos.endLine==cpos.line)=true
 trees:backTo cpos (starEach [e,f] X.env)=[(false,eval e X.env),(false,eval f X.env)]
def IsD(H:Hp)(a:Addr):Prop:=(∃b,Rd H a (.dK b))\/∃b,Rd H a (.dT b)
theorem Gd{m:St}{s:Shared}(I:Inv X f m H s)(d:IsD H a) :
  s.TypeIs (.ref a) "dict"/\(∀b,Value.ref a=.ref b->∃c,s.heap.get? b=some c/\c.dict=none)/\(a==sysModules)=false:=by
 rcases d with⟨l,e⟩|⟨l,e⟩
 ·obtain⟨_,i,n,_,g⟩:=jr I.hok e
  refine⟨g.typeIs,λb q=> ?_,i⟩;cases q;obtain⟨c,_,_,j,h,_⟩:=g;exact⟨c,j,h.2.1⟩
 ·obtain⟨_,i,o,_,g⟩:=mz I.hok e
  refine⟨g.typeIs,λb q=> ?_,i⟩;cases q;obtain⟨c,_,_,j,h,_⟩:=g;exact⟨c,j,h.2.1⟩
section
variable{X:Cx}{pins:List (Addr×Obj)}{σ:St}{H:Hp}{s:Shared}{a:Addr}{y d:V}{u r:Value}{o:Option V}{A:Around}{E:Value->Shared->Prop}
theorem HI(x:A.units+1<cLine)(I:Inv X pins σ H s)(g:gR H a y o)(v:RelV y u)(n:RelV d r)(h:∀q p,Inv X pins σ H p ->RelV (o.getD d) q ->Q q p) :
  wpAny (model X.prog X.w) A (call (.builtin "dict.get") [.ref a,u,r]) Q E s:=by
 rcases g with⟨j,k,e,i,l⟩|⟨j,k,b,e,i,C,l⟩
 ·subst i
  obtain⟨z,m,J,c,f⟩:=jr I.hok e;refine call_meetsIn PySem.F.slot_dict_get f.typeIs PySem.F.entry_dict_get (PySem.F.args_dict_get_3 _ _ _) (meets_dict_get_default (ac X.prog X.w) a (mi v) m r) ⟨_,f.mapOf,h _ _ (I.tok _) ?_⟩;rw[l];exact(c.val k).getD n
 ·subst i
  cases(show u=Value.ref b from v);obtain⟨z,m,D,c,f⟩:=mz I.hok e;refine call_meetsIn PySem.F.slot_dict_get f.typeIs PySem.F.entry_dict_get (PySem.F.args_dict_get_3 _ _ _) (meetsH_dict_get_default (tupleKind (ac X.prog X.w)) a b m r) ⟨OE x,k,D,lC I.hok C,f,h _ _ (I.tok _) ?_⟩;rw[l];exact(c.val k).getD n
end
def FJ(c d b:TE):TE:=λσ H Q=>c σ H λx H1=>∃a,x=.ref a/\IsD H1 a/\d σ H1 λy H2=>b σ H2 λz H3=>∃o,gR H3 a y o/\Q (o.getD z) H3
section
variable{X:Cx}{o e f:Expr}{apos cpos:Pos}{td ty tx:TE}
theorem zW(n:X.A.units+1<cLine)(C:PE X o td)(l:PE X e ty)(p:PE X f tx)(m:M2 X o "get" apos e f cpos):PE X (.Call (.Attribute o "get" apos) [e,f] [] cpos) (FJ td ty tx):=by
 intro b s c H Q I h;refine wpAny_Call_method m.base m.few m.line NQ PySem.F.slot_dict_get PySem.F.type_dict_get (am (C b s c H _ I h) λu s1 hpq=> ?_);obtain⟨x,q,i,w,a,v,d,j⟩:=hpq;subst v;obtain rfl:u=Value.ref a:=w;obtain⟨t1,r,_⟩:=Gd i d;refine⟨t1,r,?_⟩;rw[m.trees]
 refine Nh rfl (Calls.evalArgs_plain (Calls.spliced_cons (am (l b s1 c q _ i j) λiv s2 ⟨y,H2,I2,ry,q2⟩ =>Calls.spliced_cons (am (p b s2 c H2 _ I2 q2) λfv s3 ⟨z,H3,I3,rz,ov,g,q3⟩=>Calls.spliced_nil ?_))))
 exact HI n I3 g ry rz λw' s4 I4 rw' =>⟨_,H3,I4,rw',q3⟩
end
section
variable{X:Cx}{pins:List (Addr×Obj)}{σ:St}{H:Hp}{s:Shared}{a:Addr}{kvs:List (ah×V)}{A:Around}{E:Value->Shared->Prop}
theorem Aw(I:Inv X pins σ H s)(e:Rd H a (.dK kvs))(h:∀p d,H p=none->Inv X pins σ (upd H p (.dK kvs)) d ->Q (.ref p) d):wpAny (model X.prog X.w) A (call (.type "dict") [.ref a]) Q E s:=by obtain⟨z,f,i,c,g⟩:=jr I.hok e;refine kt_call_dict f g (by rw[<- c.length];exact z) λh' dd' hs=> ?_;refine h _ _ (I.hok.fresh (Ky _)) (I.laid (λb q hq=> ?_) (Ky _) (uG z (beq_eq_false_iff_ne.mpr (MC (LV I.big))) c dd'));exact(hs.2 b (LV (LG hq))).trans (Ks _ hq)
end
def Ez(a:List Nat):Str:=⟨a.toArray⟩
theorem hJ:∀a:List Nat,Str.join ⟨#[]⟩ (a.map λc=>(⟨#[c]⟩:Str))=Ez a
 |[]=>rfl|[c]=>rfl|c::d::a=>by
  have b:=hJ (d::a);show(⟨#[c]⟩:Str)++⟨#[]⟩++Str.join ⟨#[]⟩ ((d::a).map λc=>(⟨#[c]⟩:Str))=_;rw[b]
  apply UM.eO
  rw[Ng,Ng];simp[Ez]
theorem Jh(a:List Nat):Txt.join ⟨#[]⟩ (a.map λc=>(⟨#[c]⟩:Str))=Ez a:=(PySem.StrLaws.glued_eq_join _ _).trans (hJ a)
theorem wN(a:List Nat):((a.map λc=>(⟨#[c]⟩:Str)).map (·.length)).sum+(a.map λc=>(⟨#[c]⟩:Str)).length*(⟨#[]⟩:Str).length=a.length:=by
 have e:(⟨#[]⟩:Str).length=0:=rfl;rw[e,Nat.mul_zero,Nat.add_zero,Lc]
 induction a with
 |nil=>rfl|cons c a b =>rw[K8,NO,b,LK];show 1+_=_;omega
def cd(a:List Str)(i j:Nat):Nat:=((a.getD i ⟨#[]⟩).cps.toList).getD j 0
def fl(c:Nat):Nat:=if c=120 then 46 else 120
def sg(o:Bool)(c:Nat):Nat:=if o then fl c else c
def Wd(a:List Str)(w:Nat):Prop:=∀r∈a,r.length=w
theorem KM{i:Nat}(f:Wd a w)(c:i<a.length)(g:j<w):∃z,a[i]? =some z/\z.cps.toList[j]? =some (cd a i j)/\z.length=w:=by
 have e:=Kv c;have d:=f a[i] (NE c);have b :j<a[i].cps.toList.length:=by rw[LZ];show j<a[i].length;omega
 refine⟨a[i],e,?_,d⟩;unfold cd;rw[Kz,Kz,e,Mj,Kv b,Mj]
open AutoSeq1 (wpAny_loadPart')
open AutoSeq1 (wpAny_loadPart')
section
variable{X:Cx}
theorem yi:SlR X (λx f g H Q=>∃z,x=.str z/\z.length<=sizeLine/\Q (.str (Txt.slice z f g)) H):=by
 intro b s o H x v C y f g A Q I w c r m h;obtain⟨z,rfl,d,q⟩:=h;obtain⟨t,rfl⟩:=w;refine⟨"str",_,slot_str_getitem.lookup,NX _ _ _,?_⟩;have a:∀p k,EP X b o Q (.str (Txt.slice z f g) p) {s with toks:=k}:=λt' k=>⟨.str _,H,I.tok _,⟨_,rfl⟩,q⟩;cases r with
 |none =>
  cases m with
  |none=>exact Ms (l:=none) (u:=none) (st:=none) c rfl (post_val_or_str ⟨LM (Txt.slice_le z _ _) d,a⟩)|int j e=>exact Ms (l:=none) (u:=some (j,e)) (st:=none) c rfl (post_val_or_str ⟨LM (Txt.slice_le z _ _) d,a⟩)
 |int i n =>
  cases m with
  |none=>exact Ms (l:=some (i,n)) (u:=none) (st:=none) c rfl (post_val_or_str ⟨LM (Txt.slice_le z _ _) d,a⟩)|int j e=>exact Ms (l:=some (i,n)) (u:=some (j,e)) (st:=none) c rfl (post_val_or_str ⟨LM (Txt.slice_le z _ _) d,a⟩)
theorem DU(k n:Nat):Builtin.Str.strSliceIndices none (some (k:Int)) 1 n=(List.range (min k n)).map λi=>0+i:=by
 unfold Builtin.Str.strSliceIndices sliceRange;have c:((if(0:Int)<max 0 (min (k:Int) n)then(max 0 (min (k:Int) n)-0+1-1)/1 else 0):Int).toNat=min k n:=by
  split<;>omega
 simp only[show(1:Int)>0 by decide,M0,show¬((k:Int)<0)by omega,NM,c];refine Lr λi _=> ?_;omega
theorem DT(k n:Nat):Builtin.Str.strSliceIndices (some (k:Int)) none 1 n=(List.range (n-min k n)).map λi=>min k n+i:=by
 unfold Builtin.Str.strSliceIndices sliceRange;have c:((if max 0 (min (k:Int) n)<n then(n-max 0 (min (k:Int) n)+1-1)/1 else 0):Int).toNat=n-min k n:=by
  split<;>omega
 simp only[show(1:Int)>0 by decide,M0,show¬((k:Int)<0)by omega,NM,c];refine Lr λi _=> ?_;omega
set_option tactic.hygienic true
theorem wZ(z:Str)(k:Nat):(Txt.slice z none (some (k:Int))).cps.toList=z.cps.toList.take k:=by
 have l:z.cps.toList.length=z.length:=by rw[LZ];rfl
 have p:=StrLaws.picks z.cps.toList (min k z.length) 0 (by omega);have f:(λ(i:Nat)=>z.cps[i]?)=λi=>z.cps.toList[i]? :=by funext i;simp
 unfold Txt.slice;rw[DU]
 split
 ·rename_i h
  simp only[Kr,LX,Kt,Lx]at h;rw[Mr (by omega)]
 ·rw[f,p,List.drop_zero]
  rw[List.toList_toArray,<-l,<-List.take_eq_take_min]
theorem wY(z:Str)(k:Nat):(Txt.slice z (some (k:Int)) none).cps.toList=z.cps.toList.drop k:=by
 have l:z.cps.toList.length=z.length:=by rw[LZ];rfl
 have p:=StrLaws.picks z.cps.toList (z.length-min k z.length) (min k z.length) (by omega);have f:(λ(i:Nat)=>z.cps[i]?)=λi=>z.cps.toList[i]? :=by funext i;simp
 unfold Txt.slice;rw[DT]
 split
 ·rename_i h
  simp only[Kr,LX,Kt,Lx]at h
  by_cases a:z.length=0
  ·have:z.cps.toList=[]:=Nk (by omega)
   rw[this];simp
  ·have:k=0:=by omega
   subst this;rfl
 ·rw[f,p]
  rw[List.toList_toArray,Mr (by rw[ML];omega)]
  by_cases h:k<=z.length;rw[Nat.min_eq_left h];rw[Nat.min_eq_right (by omega),List.drop_of_length_le (by omega),List.drop_of_length_le (by omega)]
end
section
variable{P:Program}{w:World}{A:Around}{E:Value->Shared->Prop}{s:Shared}
theorem GJ{i:Nat}{v:Value}(f:s.heap.IsTupleIter b a i)(j:s.heap.IsTuple a d)(l:d[i]? =some v)
  (k:∀g,g.IsTupleIter b a (i+1)->Heap.SameBut b s.heap g ->Q v {s with heap:=g}):wpAny (model P w) A (Builtin.SmallTypes.nextOf (.ref b)) Q E s:=by
 obtain⟨r,e,h,c⟩:=id f;obtain⟨q,m,_,o,n⟩:=j;refine Ku (wpAny_callSpecial?_slot f.typeIs F.slot_tuple_iterator_next (Nq F.slot_tuple_iterator_next f.typeIs F.entry_tuple_iterator_next ?_ (F.args_tuple_iterator_next_1 _)));show wpAny _ _ (field (.ref b) 0 >>= λ_=>_) _ _ s;refine Ku (NZ e c rfl ?_);refine Ku (NZ e c rfl ?_);refine Ku (wpAny_seqItems m n ?_);simp only[L4,l];refine Ku (OB e c (by simp) (LS ⟨v,rfl,LS (k _ ?_ (Heap.SameBut.update ..))⟩));exact⟨_,Mc _ e (Nm (NY c _)),(Obj.cls_mapFields ..).trans h,by rw[NY c];simp[rawInt]⟩
theorem tR{i:Nat}(j:A.handled=none)(g:s.heap.IsTupleIter b a i)(l:s.heap.IsTuple a c)(n:c[i]? =none)
  (k:∀h e,Heap.ExtBut b s.heap h ->(∃o,h.get? e=some o/\o.cls=.type "StopIteration")->E (.ref e) {s with heap:=h}):wpAny (model P w) A (Builtin.SmallTypes.nextOf (.ref b)) Q E s:=by
 obtain⟨r,d,v,f⟩:=id g;obtain⟨q,p,_,y,u⟩:=l;refine Ku (wpAny_callSpecial?_slot g.typeIs F.slot_tuple_iterator_next (Nq F.slot_tuple_iterator_next g.typeIs F.entry_tuple_iterator_next ?_ (F.args_tuple_iterator_next_1 _)));show wpAny _ _ (field (.ref b) 0 >>= λ_=>_) _ _ s;refine Ku (NZ d f rfl ?_);refine Ku (NZ d f rfl ?_);refine Ku (wpAny_seqItems p u ?_);simp only[L4,n];refine Ku (wpAny_rule (Ku (OB d f (by simp) ?_)));refine Ku ?_;refine Ku (OH ?_ (by size_fits));refine Ku (wpAny_of_eq (by first|(simp only[firstArgMember];rfl)|rfl) ?_);refine OH ?_ (by size_fits);refine Ku (wpAny_handled ?_)
 first|rw[j]|rw[show A.in1.handled=none by exact j]
 refine Ku (LS (wpAny_throw ?_));exact k _ _ (((Heap.SameBut.update ..).extBut.push _).push _) ⟨_,LO _ rfl,rfl⟩
end
theorem xP{P:Program}{w:World}{A:Around}(f:A.handled=none)(c a:Addr)(d:a≠c)(b:Array Value) :
  Draws P w A c [c,a] b.size (λi v=>b[i]? =some v) (λi h=>h.IsTupleIter c a i/\h.IsTuple a b) where
 live:=λ_ _ st=>by obtain⟨⟨r,g,_⟩,_⟩:=st;exact⟨r,g⟩
 frame:=λ_ _ _ st k=>⟨st.1.at λo e=>k c (by simp) o e,st.2.at λo e=>k a (by simp) o e⟩
 item:=λi s Q E hi st q=>by refine GJ st.1 st.2 (v:=b[i]) (by simp[hi]) λh' t' sb=>q _ h' s.toks (by simp[hi]) ⟨t',st.2.extBut sb.extBut d⟩ sb
 done:=λs Q E st q=>tR f st.1 st.2 (by simp) q
open AutoSeq1 (wpAny_loadPart')
set_option tactic.hygienic true in
theorem qf(a:Addr)(b:Array Value)(n:Nat)(l:Option Addr)(j:Array (Option Value)) :
  Meets (Builtin.«enumerate.__new__» ⟨[.type "enumerate",.ref a],[]⟩) (λ_ R s=>s.heap.get? a=some {cls:=.type "tuple",dict:=l,data:=.seq b n,slots:=j} /\ R (.ok (.ret (.ref (s.heap.push {cls:=.type "tuple_iterator",data:=.fields #[.ref a,.int 0 0]}).objs.size))) {s with heap:=(s.heap.push {cls:=.type "tuple_iterator",data:=.fields #[.ref a,.int 0 0]}).push {cls:=.type "enumerate",data:=.fields #[.none,.bool false,.ref s.heap.objs.size,rawInt 0,.none,.none]}}) :=
 .of_wp λprog w A R s h=>by
  obtain⟨m,g,d,p,o⟩:=s;obtain⟨e,h⟩:=h;have i:=sub_enumerate;have f:Heap.IsTuple (Shared.heap ⟨m,g,d,p,o⟩) a b:=⟨_,e,rfl,n,rfl⟩
  wp_walk using Me e
  refine wpAny_stack_any λ_=>LS ?_
  split
  ·rename_i c _ _ _ _ _
   cases(c==Value.type "enumerate")
   ·wp_walk using Me e,OC f
    exact⟨_,rfl,h⟩
   ·wp_walk using Me e,OC f
    exact⟨_,rfl,h⟩
  ·wp_walk using Me e,OC f
   exact⟨_,rfl,h⟩
theorem uQ{P:Program}{A:Around}{s:Shared}(j:s.heap.IsTuple a d)
  (k:∀e,IsEnum e (s.heap.objs.size+1) s.heap.objs.size 0 .none->e.IsTupleIter s.heap.objs.size a 0->(∀b o,s.heap.get? b=some o->e.get? b=some o)->Q (.ref (s.heap.objs.size+1)) {s with heap:=e}) :
  wpAny (model P w) A (call (.type "enumerate") [.ref a]) Q E s:=by
 obtain⟨⟨c,p,r,m⟩,l,f,n,h⟩:=j;subst f h;refine callType_new F.called_enumerate (by decide) (F.typeCall_enumerate_1 _) (F.newCall_enumerate_1 _) (λob=>F.args_object_init_2 ob _) F.entry_enumerate_new (qf a d n p m) ⟨l,?_⟩;have i:(s.heap.push {cls:=.type "tuple_iterator",data:=.fields #[.ref a,.int 0 0]}).objs.size=s.heap.objs.size+1:=OF ..;rw[i];have g:IsEnum ((s.heap.push {cls:=.type "tuple_iterator",data:=.fields #[.ref a,.int 0 0]}).push {cls:=.type "enumerate",data:=.fields #[.none,.bool false,.ref s.heap.objs.size,rawInt 0,.none,.none]}) (s.heap.objs.size+1) s.heap.objs.size 0 .none:=by have q:=LO (s.heap.push {cls:=.type "tuple_iterator",data:=.fields #[.ref a,.int 0 0]}) (o:={cls:=.type "enumerate",data:=.fields #[.none,.bool false,.ref s.heap.objs.size,rawInt 0,.none,.none]}) rfl;rw[i]at q;exact q
 exact⟨⟨_,g,rfl⟩,k _ g ⟨_,Ks _ (LO _ rfl),rfl,rfl⟩ λb o y=>Ks _ (Ks _ y)⟩
def IB(b:Hp->List V->Prop):It :=
 ⟨λi H=>∃a x,b H a/\a[i]? =some x,λi H v H' =>∃p,H p=none/\v=.ref p/\∀a x,b H a->a[i]? =some x->H' =upd H p (.tup [.int (i:Nat),x]),λi H=>∃a,b H a/\a.length=i⟩
structure vy(P:Program)(w:World)(K:W.Frag)(src:Hp->List V->Prop)(e it:Addr)(tn:Nat->Heap->Prop):Prop where
 ne:e≠it
 obj:∀i h,tn i h->∃o,h.get? it=some o/\∀v,o.data≠.cell v
 keep:∀i h h',tn i h->(∀o,h.get? it=some o->h'.get? it=some o)->tn i h'
 inj:∀(X:Cx) pins s σ H xs ys,X.K=K->Inv X pins σ H s->src H xs->src H ys->xs=ys
 draws:∀(X:Cx) pins s σ H xs (i:Nat),X.prog=P->X.w=w->X.K=K->X.calm=true->Inv X pins σ H s->src H xs->tn i s.heap->∃(fp:List Addr)(Pw:Nat->Value->Prop)(St:Nat->Heap->Prop),
  Draws P w X.A.in1 it fp xs.length Pw St/\e∉fp/\St i s.heap/\(∀j v x,Pw j v->xs[j]? =some x->RelV x v)/\∀j h,St j h->tn j h
theorem jK{P:Program}{w:World}{K:W.Frag}{es:List Expr}{kt:Nat}{L:Pos}{J:Hp->List V->Prop}{e m:Addr}{tn:Nat->Heap->Prop}(S:vy P w K J e m tn) :
  uX P w K (.Tuple es kt L) (IB J) [e,m] e (λi h=>(∃b,IsEnum h e m (i:Nat) b)/\tn i h) where
 mem:=by simp
 obj:=λi h g c p=>by
  obtain⟨⟨b,f⟩,l⟩:=g;simp only[LB,Li,NR]at p
  rcases p with rfl|rfl
  ·exact⟨_,f,λv z=>by cases z⟩
  ·exact S.obj i h l
 keep:=λi h h' g k=>by obtain⟨⟨b,f⟩,l⟩:=g;exact⟨⟨b,k e (by simp) _ f⟩,S.keep i h h' l λo q=>k m (by simp) o q⟩
 item:=by
  intro X A O v p i a s r H E I R g hg;obtain⟨⟨b,f⟩,l⟩:=g;obtain⟨T,x,Q,M⟩:=hg;obtain⟨fp,Pw,St,D,N,n,j,d⟩:=S.draws X a s r H T i A O v p I Q l;subst A O v;have Z:=(Kw.mp M).1;have C:=LG f;have Y:m<s.heap.objs.size:=by obtain⟨o,ho,_⟩:=S.obj i _ l;exact LG ho
  refine wpAny_pyNext_enum_itemD D f n Z S.ne N λu h' tk hu ho hst' hT hsz hk=> ?_;refine⟨_,rfl,wpAny_letOwnedTupleGo_enum ho λh'' he' hs' => ?_⟩;have kk:∀c o,c∉[e,m]->s.heap.get? c=some o->h''.get? c=some o:=λc o hc' y=>by simp only[LB,Li,NR,not_or]at hc';exact(hs'.2 c hc'.1).trans (hk c o hc'.1 hc'.2 y)
  have U:=(hs'.2 _ (NB C)).trans hT
  have I1:Inv X a r (upd H s.heap.objs.size (.tup [.int i,x])) {s with heap:=h'',toks:=tk+1} :=
   I.drew R kk (Ky _) ⟨by show 2<=sizeLine;decide,[.int i tk,u],.cons ⟨tk,rfl⟩ (.cons (j i u x hu M) .nil),⟨_,U,rfl,_,rfl,rfl⟩⟩
  refine⟨.ref s.heap.objs.size,_,I1,rfl,⟨s.heap.objs.size,I.hok.fresh (Ky _),rfl,λxs' x' hs2 hx2=> ?_⟩,⟨⟨u,by simpa using he'⟩,S.keep _ _ _ (d _ _ hst') λo y=>(hs'.2 m S.ne.symm).trans y⟩,λc hc' => ?_⟩
  ·have q:=S.inj X a s r H _ _ rfl I Q hs2
   subst q;rw[M]at hx2;cases hx2;rfl
  ·rw[aA ?_]
   ·exact(R c hc').1
   ·simp only[LB,Li,NR]at hc'
    rcases hc' with rfl|rfl
    ·exact LV C
    ·exact LV Y
 done:=by intro X A O v p i a s r H E I R g hg;obtain⟨⟨b,f⟩,l⟩:=g;obtain⟨T,Q,M⟩:=hg;obtain⟨fp,Pw,St,D,N,n,j,d⟩:=S.draws X a s r H T i A O v p I Q l;subst M;exact wpAny_pyNext_enum_endD D f n λh' hk=>⟨rfl,I.drew0 R λc o hc' y=>hk c o (by simp only[LB,Li,NR,not_or]at hc';exact hc'.2) y⟩
 self:=λ_ _ _ _ _ g h=>by obtain⟨⟨b,f⟩,_⟩:=g;exact OG f h
theorem xN{P:Program}{w:World}{K:W.Frag}{a e b:Addr}(f:e≠b)(g:a≠b)(q:a≠e):vy P w K (λH xs=>cU K H a xs) e b (λi h=>h.IsTupleIter b a i) where
 ne:=f
 obj:=λi h st=>by obtain⟨o,y,_,d⟩:=st;exact⟨o,y,λv z=>by rw[d]at z;cases z⟩
 keep:=λi h h' st k=>st.at k
 inj:=λX pins s σ H xs ys hK I f g=>by subst hK;exact I.tuple_inj f g
 draws:=λX pins s σ H xs i hP hw hK hc I hs ht=>by
  subst hP hw hK;obtain⟨c,r,p,_⟩:=I.tuple hs;have l:=r.length;have D:=xP (P:=X.prog) (w:=X.w) (A:=X.A.in1) (I.ok.hd hc) b a g c.toArray;rw[K1,<-l]at D;refine⟨_,_,_,D,by simp[f,q.symm],⟨ht,p⟩,λj v x hv hx=> ?_,λj h st=>st.1⟩;obtain⟨u,m,n⟩:=r.get hx;have e:c[j]? =some v:=by simpa using hv
  rw[m]at e;cases e;exact n
theorem xO{P:Program}{w:World}{K:W.Frag}{z:Str}{t:Tok}{e b:Addr}(f:e≠b):vy P w K (λ_ xs=>xs=dZ z) e b (λi h=>h.IsStrIter b (strIterType z) z t i) where
 ne:=f
 obj:=λi h st=>by obtain⟨o,m,_,d⟩:=st;exact⟨o,m,λv z=>by rw[d]at z;cases z⟩
 keep:=λi h h' st k=>by obtain⟨o,m,r⟩:=st;exact⟨o,k o m,r⟩
 inj:=λX pins s σ H xs ys hK I f h2=>by rw[f,h2]
 draws:=λX pins s σ H xs i hP hw hK hc I hs ht=>by
  subst hP hw hK hs;have l:(dZ z).length=z.cps.size:=by rw[kZ];rfl
  have a:∀j v x,(∃c u,z.cps[j]? =some c/\v=.str ⟨#[c]⟩ u)->(dZ z)[j]? =some x->RelV x v:=λj v x hv hx=>by obtain⟨c,u,g,rfl⟩:=hv;unfold dZ at hx;rw[LA,Mz,g]at hx;cases hx;exact⟨u,rfl⟩
  rw[l];cases n:z.cps.all (·<128)with
  |true =>
   have e:strIterType z="str_ascii_iterator":=by unfold strIterType;rw[K5 n]
   rw[e]at ht ⊢;exact⟨_,_,_,Draws.strAscii (A:=X.A.in1) (I.ok.hd hc) b z t,by simp[f],ht,a,λj h st=>st⟩
  |false =>
   have e:strIterType z="str_iterator":=by unfold strIterType;rw[LC (by rw[n];exact K0)]
   rw[e]at ht ⊢;exact⟨_,_,_,Draws.strWide (A:=X.A.in1) (I.ok.hd hc) b z t,by simp[f],ht,a,λj h st=>st⟩
section
variable{X:Cx}
def Gn(K:W.Frag)(c:TA):TI:=λσ H R=>c σ H λvs H1=>∃a b,vs=[.ref a]/\cU K H1 a b/\R (IB λH b=>cU K H a b) H1
def Go(a:TA):TI:=λσ H R=>a σ H λvs H1=>∃z,vs=[.str z]/\R (IB λ_ xs=>xs=dZ z) H1
theorem zS{v:List Expr}(D:Gl X "enumerate")(E:X.mg "enumerate"=none)(C:PA X [a] g)(w:starEach [a] X.env=[(false,eval a X.env)]:=by rfl) :
  PI X (.Tuple v x d) (.Call (.Name "enumerate" p) [a] [] pos) (Gn X.K g):=by
 intro b s f H R I h;refine Call_ (eR I D E boot_enumerate (L0 (am (C pos b s f H _ I h) λus s1 ⟨vs,H1,I1,r1,q1⟩=> ?_) w rfl));obtain⟨l,J,e,y,q⟩:=q1;subst e;obtain⟨u,rfl,z⟩:=vals1 r1;cases z;obtain⟨A,r,i,_⟩:=I1.tuple y;have m:l<s1.heap.objs.size:=by obtain⟨o,e,_⟩:=id i;exact LG e
 refine uQ i λh' he hit hk=> ?_;refine OG he ?_;have n:=I1.kept (t' :=s1.toks) hk;refine⟨s1.heap.objs.size+1,[s1.heap.objs.size+1,s1.heap.objs.size],_,_,H1,rfl,n,jK (xN (Nat.succ_ne_self _) (LV m) (LV (MN m))),⟨⟨_,he⟩,hit⟩,λc hc=> ?_,q⟩;have j:s1.heap.objs.size<=c:=by
  simp only[LB,Li,NR]at hc
  rcases hc with rfl|rfl<;>omega
 exact I1.fpOk j (I1.hok.fresh j)
theorem zT{n:Nat}(r:Gl X "enumerate")(v:X.mg "enumerate"=none)(o:PA X [a] g)(m:starEach [a] X.env=[(false,eval a X.env)]:=by rfl) :
  PI X (.Tuple l n d) (.Call (.Name "enumerate" p) [a] [] pos) (Go g):=by
 intro b s f H R I h;refine Call_ (eR I r v boot_enumerate (L0 (am (o pos b s f H _ I h) λus s1 ⟨vs,H1,I1,r1,q1⟩=> ?_) m rfl));obtain⟨z,e,q⟩:=q1;subst e;obtain⟨u,rfl,t,rfl⟩:=vals1 r1;refine call_enumerate_str λh' he hit _ hk=> ?_;refine OG he ?_;have j:=I1.kept (t' :=s1.toks) hk;refine⟨s1.heap.objs.size+1,[s1.heap.objs.size+1,s1.heap.objs.size],_,_,H1,rfl,j,jK (xO (Nat.succ_ne_self _)),⟨⟨_,he⟩,hit⟩,λc hc=> ?_,q⟩;have i:s1.heap.objs.size<=c:=by
  simp only[LB,Li,NR]at hc
  rcases hc with rfl|rfl<;>omega
 exact I1.fpOk i (I1.hok.fresh i)
theorem Ad{src:Hp->List V->Prop}{b:List V}{g:TG}{n:TS}{D:cO}(c:Nat->St->Hp->Prop)(q:c 0 a H)(u:∀i a H,i<=b.length->c i a H->src H b)
  (r:∀i x p a H,b[i]? =some x->H p=none->c i a H->g (.ref p) a (upd H p (.tup [.int (i:Nat),x])) λσ2 H2=>n {D with nx:=c (i+1),ct:=c (i+1),bk:=D.nx} σ2 H2) (w:∀a H,c b.length a H->D.nx a H) :
  ∃W:Nat->Nat->St->Hp->Prop,(∃m,W 0 m a H)/\∀i m a H,W i m a H -> ((IB src).stop i H/\D.nx a H)\/((IB src).go i H/\∃N:St->Hp->Prop,(∀h d,N h d ->∃o,o <m/\W (i+1) o h d)/\∀x d,(IB src).yld i H x d ->g x a d λσ2 H2=>n {D with nx:=N,ct:=N,bk:=D.nx} σ2 H2):=by
 refine⟨λi m a H=>m=b.length-i/\i<=b.length/\c i a H,⟨b.length,by simp,LY _,q⟩,?_⟩;rintro i m a H ⟨rfl,s,p⟩;have j:=u i a H s p
 by_cases f:i<b.length
 ·have l:b[i]? =some b[i]:=by simp[f]
  refine .inr ⟨⟨b,_,j,l⟩,c (i+1),λσ' d p' =>⟨b.length-(i+1),by omega,rfl,f,p'⟩,λx d y=> ?_⟩;obtain⟨v,z,rfl,y⟩:=y;have e:=y b _ j l;subst e;exact r i _ v a H l z p
 ·have e:i=b.length:=by omega
  subst e;exact .inl ⟨⟨b,j,rfl⟩,w a H p⟩
theorem pW{a:List Int}{us:List Value}{i:Nat}{v:Value}(r:aN (a.map V.int) us)(h:us[i]? =some v):∃t,v=.int (a.getD i 0) t:=by have b:=r.length;rw[Kr]at b;have f:=(Kw.mp h).1;obtain⟨u,d,c⟩:=r.get (i:=i) (x:=.int (a[i]'(by omega))) (by simp[show i<a.length by omega]);rw[d]at h;cases h;obtain⟨t,e⟩:=c;refine⟨t,?_⟩;rw[e];simp[List.getD,show i<a.length by omega]
theorem fK(a:List Int):∀k,k<=a.length->preSum (λi=>a.getD i 0) k=(a.take k).sum
 |0,_=>by simp[preSum]|k+1,h=>by
  have e:a.take (k+1)=a.take k++[a[k]'(by omega)]:=by simp[show k<a.length by omega]
  rw[preSum,fK a k (by omega),e,List.sum_append];simp[List.getD,show k<a.length by omega]
theorem mG(hc:X.calm=true):bO X (.builtin "sum") (λxs H Q=>∃(p:Addr)(ns:List Int),xs=[.ref p]/\bJ X.K H p (ns.map V.int)/\Q (.int ns.sum) H):=by
 intro pins s σ H xs us Q I r h;obtain⟨p,ns,rfl,hq,q⟩:=h;obtain⟨u,rfl,rx⟩:=vals1 r;cases rx;obtain⟨its,r',pl,hz⟩:=I.list hq;have hlen:=r'.length;rw[Kr]at hlen;have hp:p<s.heap.objs.size:=by obtain⟨o,e,_⟩:=pl.isList;exact LG e
 refine call_sum_walkAnyS (wpAny_pyIter_list pl.isList ?_);refine⟨s.heap.objs.size,_,_,_,its.toArray.size,_,_,(λi=>ns.getD i 0),rfl,(Walks.list (A:=X.A.in1) (I.ok.hd hc) s.heap.objs.size p (LV hp) its.toArray).toS,⟨⟨_,LO _ rfl,rfl,rfl⟩,pl.isList.push _⟩,?_,?_,?_⟩
 ·intro b hb
  simp at hb
  rcases hb with rfl|rfl
  ·rw[size_push'];exact Nat.lt_succ_self _
  ·rw[size_push'];exact MN hp
 ·intro i v hv
  exact pW r' (by simpa using hv)
 ·intro s' t' hm
  obtain⟨m1,m2,m3,m4,m5⟩:=hm;have e:s' ={s with heap:=s'.heap,toks:=s'.toks}:=by cases s';subst m2 m3 m4;rfl
  rw[e];refine⟨.int ns.sum,H,I.kept (λb o z=>m1 b o (by simpa using LV (LG z)) (Ks _ z)),⟨t',?_⟩,q⟩;rw[K1,<-hlen,fK ns _ (Ky _),L8]
theorem iG:∀{us:List Value}{a:List Int},IntsAre us a->aN (a.map V.int) us
 |_,_,.nil=>.nil|_,_,.cons n t r=>.cons ⟨t,rfl⟩ (iG r)
def sortI(c:List Int):List Int:=c.mergeSort (λa b=>decide (a<=b))
theorem sortI_perm(a:List Int):(sortI a).Perm a:=List.mergeSort_perm _ _
theorem yf(d:List Int):(sortI d).Pairwise (·<=·):=by have:=List.pairwise_mergeSort (le:=λa b:Int=>decide (a<=b)) (λa b c h1 h2=>by simp at *;omega) (λa b=>by simp;omega) d;exact this.imp λh=>by simpa using h
theorem nP(h:c.Perm a)(s:c.Pairwise (·<=·)):c=sortI a := List.Perm.eq_of_pairwise (λa b _ _ h1 h2=>Int.le_antisymm h1 h2) s (yf a) (h.trans (sortI_perm a).symm)
theorem jY:bO X (.builtin "sorted") (λxs H Q=>∃(p:Addr)(ns:List Int),xs=[.ref p]/\bJ X.K H p (ns.map V.int)/\ns.length<64/\∀a,H a=none->Q (.ref a) (upd H a (.lst ((sortI ns).map V.int)))):=by intro pins s σ H xs us Q I r h;obtain⟨p,ns,rfl,hq,h64,q⟩:=h;obtain⟨u,rfl,rx⟩:=vals1 r;cases rx;obtain⟨its,r',pl,hz⟩:=I.list hq;have hlen:=r'.length;rw[Kr]at hlen;refine sorted_ints pl.isList (intsAre_of r') (by omega) λout ns' a1 a2 a3=> ?_;have e:=nP a2 a3;subst e;obtain⟨c,hc⟩:=sortedAll_at s.heap its out;refine⟨.ref (s.heap.objs.size+1),_,I.laid (λb o z=>sortedAll_old z) (Ni _) ?_,rfl,q _ (I.hok.fresh (Ni _))⟩;refine⟨?_,out.toList,c,iG a1,by simpa [seqObj]using hc⟩;rw[Kr,(sortI_perm ns).length_eq];have:=Lp;omega
theorem uF{P:Program}{w:World}{K:W.Frag}{a e b:Addr}(f:e≠b)(g:a≠b)(q:a≠e):vy P w K (λH xs=>bJ K H a xs) e b (λi h=>h.IsListIter b a i) where
 ne:=f
 obj:=λi h st=>by obtain⟨o,y,_,d⟩:=st;exact⟨o,y,λv z=>by rw[d]at z;cases z⟩
 keep:=λi h h' st k=>st.at k
 inj:=λX pins s σ H xs ys hK I f g=>by subst hK;exact I.list_inj f g
 draws:=λX pins s σ H xs i hP hw hK hc I hs ht=>by
  subst hP hw hK;obtain⟨c,r,p,_⟩:=I.list hs;have l:=r.length;have D:=Draws.list (prog:=X.prog) (w:=X.w) (A:=X.A.in1) (I.ok.hd hc) b a g c.toArray;rw[K1,<-l]at D;refine⟨_,_,_,D,by simp[f,q.symm],⟨ht,p.isList⟩,λj v x hv hx=> ?_,λj h st=>st.1⟩;obtain⟨u,m,n⟩:=r.get hx;have e:c[j]? =some v:=by simpa using hv
  rw[m]at e;cases e;exact n
def Gp(K:W.Frag)(c:TA):TI:=λσ H R=>c σ H λvs H1=>∃a b,vs=[.ref a]/\bJ K H1 a b/\R (IB λH b=>bJ K H a b) H1
theorem qN{v:List Expr}(D:Gl X "enumerate")(E:X.mg "enumerate"=none)(C:PA X [a] g)(w:starEach [a] X.env=[(false,eval a X.env)]:=by rfl) :
  PI X (.Tuple v x d) (.Call (.Name "enumerate" p) [a] [] pos) (Gp X.K g):=by
 intro b s f H R I h;refine Call_ (eR I D E boot_enumerate (L0 (am (C pos b s f H _ I h) λus s1 ⟨vs,H1,I1,r1,q1⟩=> ?_) w rfl));obtain⟨l,J,e,y,q⟩:=q1;subst e;obtain⟨u,rfl,z⟩:=vals1 r1;cases z;obtain⟨A,r,i,_⟩:=I1.list y;have m:l<s1.heap.objs.size:=by obtain⟨o,e,_⟩:=i.isList;exact LG e
 refine call_enumerate_list i.isList λh' he hit hl hk=> ?_;refine OG he ?_;have n:=I1.kept (t' :=s1.toks) hk;refine⟨s1.heap.objs.size+1,[s1.heap.objs.size+1,s1.heap.objs.size],_,_,H1,rfl,n,jK (uF (Nat.succ_ne_self _) (LV m) (LV (MN m))),⟨⟨_,he⟩,hit⟩,λc hc=> ?_,q⟩;have j:s1.heap.objs.size<=c:=by
  simp only[LB,Li,NR]at hc
  rcases hc with rfl|rfl<;>omega
 exact I1.fpOk j (I1.hok.fresh j)
def BV(i j:Int):Prop:=i.natAbs<2^2000/\j.natAbs<2^2000
theorem intBits_le{k:Int}(h:k.natAbs<2^2000):Builtin.Int.intBits k<=2000:=by
 unfold Builtin.Int.intBits
 split;exact LY _
 ·have:k.natAbs.log2<2000:=by
   rcases Nat.eq_zero_or_pos k.natAbs with b|a
   ·rw[b];decide
   ·exact(Nat.log2_lt (NB a)).mpr h
  omega
theorem BV.ok{i:Int}(h:BV i j):IntMulOk i j:=by
 unfold IntMulOk;have h1:=intBits_le h.1;have h2:=intBits_le h.2;have h3:Builtin.Int.intTooBig (Builtin.Int.intBits i+Builtin.Int.intBits j)=false:=by
  have:((4000:Nat):Int)<=bitsLine:=by decide
  exact Ld (by omega)
 rw[h3];simp
theorem Cp:eM X (binaryOp .Mult) (rI BV λi j=>.int (i*j)):=opI λ_ _ _ _ _ _ _ hc q=>mul_int q hc.ok
theorem uO:bO X (.builtin "len") (λxs H Q=>∃a kvs,xs=[V.ref a]/\Rd H a (.dK kvs)/\Q (.int kvs.length) H):=by intro pins s σ H xs us Q I r h;obtain⟨a,kvs,rfl,ha,q⟩:=h;obtain⟨u,rfl,ru⟩:=vals1 r;cases ru;exact Jw I ha λt s' I' =>⟨.int kvs.length,H,I',⟨t,rfl⟩,q⟩
theorem re:bO X (.type "dict") (λxs H Q=>∃a kvs,xs=[V.ref a]/\Rd H a (.dK kvs)/\∀p,H p=none->Q (.ref p) (upd H p (.dK kvs))):=by intro pins s σ H xs us Q I r h;obtain⟨a,kvs,rfl,ha,q⟩:=h;obtain⟨u,rfl,ru⟩:=vals1 r;cases ru;exact Aw I ha λp s' hp I' =>⟨.ref p,_,I',rfl,q p hp⟩
def li(v d:Addr):HO:=.ext λh=>h.IsValuesView v d
theorem mZ:IM X "dict.values" (λx c H Q=>∃a b,x=.ref a/\c=[]/\H a=some (.dK b)/\∀p,H p=none->Q (.ref p) (upd H p (li p a))):=by intro d s n H x y v us Q I i m h;obtain⟨a,b,rfl,rfl,j,q⟩:=h;cases i;cases m;obtain⟨z,l,c,g,f⟩:=m7 I.hok j;refine call_meetsIn N9 f.typeIs PySem.F.entry_dict_values (PySem.F.args_dict_values_1 _) (meets_dict_values (ac X.prog X.w) a l) ⟨⟨c,f⟩,?_⟩;refine⟨.ref s.heap.objs.size,_,I.laid (λb u e=>Ks _ e) (Ky _) ?_,rfl,q _ (I.hok.fresh (Ky _))⟩;refine⟨⟨_,LO _ rfl,rfl,rfl⟩,⟨_,LO _ rfl⟩,λh1 h2 p k=> ?_⟩;obtain⟨o,e,r⟩:=p;exact⟨o,k o e,r⟩
theorem qk{d:List Int}(r:KV b c)(e:b.map (·.2)=d.map V.int){i:Nat}{k:ah}{v:Value}(h:c[i]? =some (k,v)):∃t,v=.int (d.getD i 0) t:=by
 have w:=r.length;have u:=(Kw.mp h).1;have x:d.length=b.length:=by have:=L5 List.length e;simpa using this.symm
 have f:∀{b:List (ah×V)}{c:List (ah×Value)}{i:Nat}{q:ah×Value},KV b c->c[i]? =some q->∃p,b[i]? =some p/\RelV p.2 q.2:=by
  intro b c i q r
  induction r generalizing i with
  |nil=>intro e;simp at e|cons a t s =>
   intro e;cases i with
   |zero=>simp at e;subst e;exact⟨_,by simp,a.2⟩|succ i=>simpa using s (by simpa using e)
 obtain⟨p,n,j⟩:=f r h;have g:(b.map (·.2))[i]? =(d.map V.int)[i]? :=by rw[e]
 rw[LA,LA,n,Kv (by omega)]at g;have m:p.2=V.int (d[i]'(by omega)):=by simpa using g
 rw[m]at j;obtain⟨t,l⟩:=j;refine⟨t,?_⟩;have o:v=.int (d[i]'(by omega)) t:=l;rw[o];simp[List.getD,show i<d.length by omega]
theorem mF(hc:X.calm=true):bO X (.builtin "sum") (λxs H Q=>∃(p a:Addr)(kvs:List (ah×V))(ns:List Int),xs=[.ref p]/\H p=some (li p a)/\H a=some (.dK kvs)/\kvs.map (·.2)=ns.map V.int/\Q (.int ns.sum) H):=by
 intro pins s σ H xs us Q I r h;obtain⟨p,a,kvs,ns,rfl,hp,ha,en,q⟩:=h;obtain⟨u,rfl,rx⟩:=vals1 r;cases rx;obtain⟨z,hd,vs,rel,dd⟩:=m7 I.hok ha;obtain⟨ep,da⟩:=dd.dictAt;obtain⟨hv,_⟩:=(show au X.prog X.w H s.heap p (li p a)from I.hok p _ hp);have hl:=rel.length;have hn:ns.length=kvs.length:=by have:=L5 List.length en;simpa using this.symm
 have lt:=da.lt_size;refine call_sum_walkAnyS (wpAny_pyIter_values hv da ?_);refine⟨s.heap.objs.size,_,_,_,vs.length,_,_,(λi=>ns.getD i 0),rfl,(Walks.dictValues (A:=X.A.in1) (I.ok.hd hc) s.heap.objs.size a (LV lt) vs ep).toS,⟨⟨_,LO _ rfl,rfl,rfl⟩,da.push _⟩,?_,?_,?_⟩
 ·intro b hb
  simp at hb
  rcases hb with rfl|rfl
  ·rw[size_push'];exact Nat.lt_succ_self _
  ·rw[size_push'];exact MN lt
 ·rintro i v ⟨k,hv⟩
  exact qk rel en hv
 ·intro s' t' hm
  obtain⟨m1,m2,m3,m4,m5⟩:=hm;have e:s' ={s with heap:=s'.heap,toks:=s'.toks}:=by cases s';subst m2 m3 m4;rfl
  rw[e];refine⟨.int ns.sum,H,I.kept (λb o z=>m1 b o (by simpa using LV (LG z)) (Ks _ z)),⟨t',?_⟩,q⟩;rw[<- hl,<-hn,fK ns _ (Ky _),L8]
theorem Inv.known{s:Shared}{o:Obj}(I:Inv X f l H s)(d:H a=some (.dK g))(y:s.heap.get? a=some o):Inv X f l (upd H a (.frz o (.dK g))) s:=by
 have j:∀b h,H b=some (.tup h)->upd H a (.frz o (.dK g)) b=some (.tup h):=λb h e=>by rw[aA (λz=>by subst z;rw[d]at e;cases e)];exact e
 refine⟨I.ok,I.os,I.bare,⟨I.base.keep,I.base.slot,λb ob e n hx=> ?_,I.base.there,λb h e=>j b h (I.base.tups b h e),λb ob u e=> ?_,λb ps e=> ?_⟩,I.loc,I.cell,?_,λx c e=> ?_,λp hp=> ?_,λb u e=> ?_,I.len⟩
 ·have:=I.base.free b ob e n hx
  rw[aA (λz=>by subst z;rw[d]at this;cases this)];exact this
 ·have:=I.base.frzs b ob u e
  rw[aA (λz=>by subst z;rw[d]at this;cases this)];exact this
 ·obtain⟨m,e⟩:=I.base.tbls b ps e
  exact⟨m,by rw[aA (λz=>by subst z;rw[d]at e;cases e)];exact e⟩
 ·rw[aA (λz=>by have:=I.free;rw[z,d]at this;cases this)]
  exact I.free
 ·have:=I.freeC x c e
  rw[aA (λz=>by rw[z,d]at this;cases this)];exact this
 ·obtain⟨w,i,v⟩:=I.pin p hp
  exact⟨w,by rw[aA (λz=>by rw[z,d]at i;cases i)];exact i,v⟩
 ·by_cases r:b=a
  ·subst r
   rw[aD]at e;cases e;refine⟨y,?_⟩;exact(I.hok b _ d).stay (λ_ _ _ q=>q) (λc q=>by rw[aA (λz=>by subst z;rw[d]at q;cases q)];exact q) j
  ·rw[aA r]at e
   exact(I.hok b u e).stay (λ_ _ _ q=>q) (λc q=>by rw[aA (λz=>by subst z;rw[d]at q;cases q)];exact q) j
def NF(X:Cx)(a:Addr):Prop:=∀o u,X.H₀ a≠some (.frz o u)
theorem Inv.nf{s:Shared}(I:Inv X b d H s)(f:H a=some (.dK c)):NF X a:=λo u e=>by have:=I.base.frzs a o u e;rw[f]at this;cases this
theorem Inv.unknown{s:Shared}{o:Obj}(I:Inv X f l H s)(v:NF X a)(d:H a=some (.frz o (.dK g))):Inv X f l (upd H a (.dK g)) s:=by
 have j:∀b h,H b=some (.tup h)->upd H a (.dK g) b=some (.tup h):=λb h e=>by rw[aA (λz=>by subst z;rw[d]at e;cases e)];exact e
 refine⟨I.ok,I.os,I.bare,⟨I.base.keep,I.base.slot,λb ob e n hx=> ?_,I.base.there,λb h e=>j b h (I.base.tups b h e),λb ob u e=> ?_,λb ps e=> ?_⟩,I.loc,I.cell,?_,λx c e=> ?_,λp hp=> ?_,λb u e=> ?_,I.len⟩
 ·have:=I.base.free b ob e n hx
  rw[aA (λz=>by subst z;rw[d]at this;cases this)];exact this
 ·have:=I.base.frzs b ob u e
  rw[aA (λz=>by subst z;exact v _ _ e)];exact this
 ·obtain⟨m,e⟩:=I.base.tbls b ps e
  exact⟨m,by rw[aA (λz=>by subst z;rw[d]at e;cases e)];exact e⟩
 ·rw[aA (λz=>by have:=I.free;rw[z,d]at this;cases this)]
  exact I.free
 ·have:=I.freeC x c e
  rw[aA (λz=>by rw[z,d]at this;cases this)];exact this
 ·obtain⟨y,i,w⟩:=I.pin p hp
  exact⟨y,by rw[aA (λz=>by rw[z,d]at i;cases i)];exact i,w⟩
 ·by_cases r:b=a
  ·subst r
   rw[aD]at e;cases e;exact(I.hok b _ d).2.stay (λ_ _ _ q=>q) (λc q=>by rw[aA (λz=>by subst z;rw[d]at q;cases q)];exact q) j
  ·rw[aA r]at e
   exact(I.hok b u e).stay (λ_ _ _ q=>q) (λc q=>by rw[aA (λz=>by subst z;rw[d]at q;cases q)];exact q) j
def Ko(a:Addr)(o:Obj)(b:List (ah×V)):It :=
 ⟨λi H=>H a=some (.frz o (.dK b))/\i<b.length,λi H v H' =>∃p,H p=none/\v=.ref p/\∀k x,b[i]? =some (k,x)->H' =upd H p (.tup [kV k,x]),λi H=>H a=some (.frz o (.dK b))/\i=b.length⟩
theorem GZ{k:ah}{v:Value}{P:Program}(h:(ac P w).is k v=true):RelV (kV k) v:=by
 cases k with
 |inl i =>obtain⟨t,e⟩:=Value.isInt_shape h;exact⟨t,e⟩
 |inr z =>obtain⟨t,e⟩:=Value.isStrOf_shape h;exact⟨t,e⟩
theorem gQ:entryFor table "dict_itemiterator.__iter__"=some Builtin.«dict_keyiterator.__iter__» := entryFor_alias (id' :="dict_keyiterator.__iter__") (by kernel_rfl) rfl (by decide +kernel) (by kernel_rfl)
set_option tactic.hygienic true in
theorem sY{P:Program}{w:World}{K:W.Frag}{es:List Expr}{kt:Nat}{M:Pos}{a j:Addr}{o:Obj}{d:List (ah×V)}{f:List (ah×Value)}{O:Nat}{h0:Heap}(a0:a≠j)(u:KV d f)(J:h0.DictAt (ac P w) a f O)(ho:h0.get? a=some o) :
  uX P w K (.Tuple es kt M) (Ko a o d) [j] j (λi h=>∃D C,IsItemIter h j a i f.length O D C) where
 mem:=by simp
 obj:=λi h m b hb=>by
  have e:b=j:=by simpa using hb
  subst e;obtain⟨D,C,e⟩:=m;exact⟨_,e,λv z=>by cases z⟩
 keep:=λi h h' m k=>by obtain⟨D,C,e⟩:=m;exact⟨D,C,k j (by simp) _ e⟩
 item:=by
  intro X T hw S hc i p s σ H E I N m Z;subst T hw S;obtain⟨A,Y⟩:=Z;obtain⟨D,C,n⟩:=m;have so:=(I.hok a _ A).1;have g :=J.at' λo' e=>by rw[ho]at e;cases e;exact so
  obtain⟨⟨k,x⟩,hx⟩:∃q,d[i]? =some q:=⟨d[i],by simp[Y]⟩;have U:∀{d:List (ah×V)}{f:List (ah×Value)}{i:Nat}{q:ah×V},KV d f->d[i]? =some q->∃v,f[i]? =some (q.1,v)/\RelV q.2 v:=by
   intro d f i q r
   induction r generalizing i with
   |nil=>intro e;simp at e|cons a t ih =>
    intro e;cases i with
    |zero =>simp at e;subst e;rename_i c _ _;exact⟨c.2,by simp[a.1],a.2⟩
    |succ i=>simpa using ih (by simpa using e)
  obtain⟨v,hv,rv⟩:=U u hx;have L:=LG n;refine wpAny_pyNext_items_item n g hv λkv h' hkey hout hT hsz hk=> ?_;refine⟨_,rfl,wpAny_letOwnedTupleGo_items hout λh'' he' hs' => ?_⟩;have kk:∀c o,c∉[j]->s.heap.get? c=some o->h''.get? c=some o:=λc o hc' y=>by
   have l:c≠j:=by simpa using hc'
   exact(hs'.2 c l).trans (hk c o l y)
  have R:=(hs'.2 _ (NB L)).trans hT
  have I1:Inv X p σ (upd H s.heap.objs.size (.tup [kV k,x])) {s with heap:=h''} :=
   I.drew (t' :=s.toks) N kk (Ky _) ⟨by show 2<=sizeLine;decide,[kv,v],.cons (GZ hkey) (.cons rv .nil),⟨_,R,rfl,_,rfl,rfl⟩⟩
  refine⟨.ref s.heap.objs.size,_,I1,rfl,⟨s.heap.objs.size,I.hok.fresh (Ky _),rfl,λk' x' hx' => ?_⟩,⟨_,_,he'⟩,λc hc' => ?_⟩
  ·rw[hx]at hx'
   cases hx';rfl
  ·have l:c=j:=by simpa using hc'
   subst l;rw[aA (LV L)];exact(N c (by simp)).1
 done:=by
  intro X T hw S hc i p s σ H E I N m Z;subst T hw S;obtain⟨A,rfl⟩:=Z;obtain⟨D,C,n⟩:=m;have so:=(I.hok a _ A).1;have g :=J.at' λo' e=>by rw[ho]at e;cases e;exact so
  have hl:d.length=f.length:=u.length;exact wpAny_pyNext_items_end (I.ok.hd hc) n g (by rw[hl];simp) λh' hk=>⟨rfl,I.drew0 (t' :=s.toks) N λc o hc' y=>hk c o (by simpa using hc') y⟩
 self:=λA i s Q E m h=>by obtain⟨D,C,n⟩:=m;refine wpAny_pyIter_slot ⟨_,n,rfl⟩ PySem.F.slot_dict_itemiterator_iter (Nq PySem.F.slot_dict_itemiterator_iter ⟨_,n,rfl⟩ gQ ?_ (PySem.F.args_dict_itemiterator_iter_1 _));exact LS ⟨_,rfl,"dict_itemiterator",_,⟨_,n,rfl⟩,PySem.F.slot_dict_itemiterator_next.lookup,h⟩
def Gm(X:Cx)(c:TE):TI:=λσ H R=>c σ H λx H1=>∃a b,x=.ref a/\H1 a=some (.dK b)/\∀o,NF X a->R (Ko a o b) (upd H1 a (.frz o (.dK b)))
theorem qY{m:Pos}{o:Expr}(ho:PE X o N)(i:attributeBase o "items" X.env (eval o X.env)=eval o X.env:=by rfl)(j:(d.endLine==g.line)=true:=by rfl) :
  PI X (.Tuple S U m) (.Call (.Attribute o "items" d) [] [] g) (Gm X N):=by
 intro f s K H R I h;refine wpAny_Call_method0_late i j (am (ho f s K H _ I h) λv s1 hpq=> ?_);obtain⟨x,W,D,Q,O⟩:=hpq;obtain⟨a,Y,rfl,J,q⟩:=O;cases Q;obtain⟨z,Z,A,r,p⟩:=m7 D.hok J;obtain⟨M,C⟩:=p.dictAt;obtain⟨n,T,b,v,_⟩:=id C;refine⟨"dict","dict.items",NQ,PySem.F.slot_dict_items,PySem.F.type_dict_items,p.typeIs,λb e=> ?_,Nh rfl (PySem.evalArgs_none ?_)⟩
 ·cases e
  exact⟨n,b,v.2.1⟩
 refine call_meetsIn PySem.F.slot_dict_items p.typeIs PySem.F.entry_dict_items (PySem.F.args_dict_items_1 _) (meets_dict_items (ac X.prog X.w) a Z) ⟨⟨A,p⟩,?_⟩;have y:Inv X f K W {s1 with heap:=s1.heap.push {cls:=.type "dict_items",data:=.fields #[.ref a]}}:=D.kept (t' :=s1.toks) λb u e=>Ks _ e;have E:=C.push {cls:=.type "dict_items",data:=.fields #[.ref a]};refine wpAny_pyIter_items ⟨_,LO _ rfl,rfl,rfl⟩ E ?_;have L:a<s1.heap.objs.size:=LG b;have I3:=y.kept (t' :=s1.toks) (h' :=(s1.heap.push {cls:=.type "dict_items",data:=.fields #[.ref a]}).push {cls:=.type "dict_itemiterator",data:=.fields #[.none,.bool false,.ref a,.int 0 0,.int A.length 0,.int M 0,.none,.none]}) λb u e=>Ks _ e;have l:((s1.heap.push {cls:=.type "dict_items",data:=.fields #[.ref a]}).push {cls:=.type "dict_itemiterator",data:=.fields #[.none,.bool false,.ref a,.int 0 0,.int A.length 0,.int M 0,.none,.none]}).get? a=some n:=Ks _ (Ks _ b);have I4:=I3.known J l;refine⟨(s1.heap.push {cls:=.type "dict_items",data:=.fields #[.ref a]}).objs.size,[(s1.heap.push {cls:=.type "dict_items",data:=.fields #[.ref a]}).objs.size],_,_,_,rfl,I4,sY (o:=n) (h0:=s1.heap) (LV (by rw[size_push'];exact MN L)) r C b,⟨_,_,LO _ rfl⟩,λc hc=> ?_,q n (D.nf J)⟩;have e:c=(s1.heap.push {cls:=.type "dict_items",data:=.fields #[.ref a]}).objs.size:=by simpa using hc
 subst e;refine(y.fpOk (Ky _) ?_);rw[aA (NB (by rw[size_push'];exact MN L))];exact y.hok.fresh (Ky _)
def thaw(X:Cx)(D:cO):cO where
 nx:=λσ H=>∃a o b,H a=some (.frz o (.dK b))/\NF X a/\D.nx σ (upd H a (.dK b))
 bk:=λσ H=>∃a o b,H a=some (.frz o (.dK b))/\NF X a/\D.bk σ (upd H a (.dK b))
 ct:=λσ H=>∃a o b,H a=some (.frz o (.dK b))/\NF X a/\D.ct σ (upd H a (.dK b))
 rt:=λv H=>∃a o b,H a=some (.frz o (.dK b))/\NF X a/\D.rt v (upd H a (.dK b))
theorem Ca{m:Stmt}{t:TS}(h:PS X m t):PS X m (λD j H=>t (thaw X D) j H):=by
 intro i s j H D I n;refine am (h i s j H _ I n) λf s1 q=> ?_;cases f with
 |next =>obtain⟨b,l,d,a,o,g,e,c,q⟩:=q;exact⟨b,_,d.unknown c e,q⟩
 |brk =>obtain⟨b,l,d,a,o,g,e,c,q⟩:=q;exact⟨b,_,d.unknown c e,q⟩
 |cont =>obtain⟨b,l,d,a,o,g,e,c,q⟩:=q;exact⟨b,_,d.unknown c e,q⟩
 |ret v =>obtain⟨b,x,l,d,p,a,o,g,e,c,q⟩:=q;exact⟨b,x,_,d.unknown c e,p,q⟩
theorem xL{a:Addr}{o:Obj}{b:List (ah×V)}{g:TG}{q:TS}{D:cO}{c:St}{H:Hp}(d:Nat->St->Hp->Prop)(s:d 0 c H)(w:∀i c H,i<=b.length->d i c H->H a=some (.frz o (.dK b)))
  (u:∀i k x p c H,b[i]? =some (k,x)->H p=none->d i c H->g (.ref p) c (upd H p (.tup [kV k,x])) λσ2 H2=>q {D with nx:=d (i+1),ct:=d (i+1),bk:=D.nx} σ2 H2) (A:∀c H,d b.length c H->D.nx c H) :
  ∃W:Nat->Nat->St->Hp->Prop,(∃m,W 0 m c H)/\∀i m c H,W i m c H -> ((Ko a o b).stop i H/\D.nx c H)\/((Ko a o b).go i H/\∃N:St->Hp->Prop,(∀j f,N j f ->∃r,r <m/\W (i+1) r j f)/\∀x f,(Ko a o b).yld i H x f ->g x c f λσ2 H2=>q {D with nx:=N,ct:=N,bk:=D.nx} σ2 H2):=by
 refine⟨λi m c H=>m=b.length-i/\i<=b.length/\d i c H,⟨b.length,by simp,LY _,s⟩,?_⟩;rintro i m c H ⟨rfl,v,p⟩;have l:=w i c H v p
 by_cases h:i<b.length
 ·have n:b[i]? =some b[i]:=by simp[h]
  refine .inr ⟨⟨l,h⟩,d (i+1),λσ' f p' =>⟨b.length-(i+1),by omega,rfl,h,p'⟩,λx f y=> ?_⟩;obtain⟨z,C,rfl,y⟩:=y;have e:=y b[i].1 b[i].2 n;subst e;exact u i _ _ z c H n C p
 ·have e:i=b.length:=by omega
  subst e;exact .inl ⟨⟨l,rfl⟩,A c H p⟩
end
end L2
namespace L2
open PySem PySem.Spec PyProof.Rows
namespace RV
def Kp(h:Heap)(a:Addr)(x:Str)(t:Tok)(i:Int):Prop:=∃o,h.get? a=some o/\o.cls=.type "reversed"/\o.data=.fields #[.str x t,rawInt i]
section
variable{prog:Program}{w:World}{A:Around}{E:Value->Shared->Prop}{s:Shared}{x:Str}{t:Tok}{a:Addr}
set_option tactic.hygienic false
end
end RV
end L2
namespace L2
open PySem PySem.Spec PyProof.Rows
end L2
namespace L2
open PySem PySem.Spec PyProof.Rows
end L2
namespace L2
open PySem PySem.Spec PyProof.Rows
section
variable{X:Cx}
def Fp:V->List V->Hp->VK->Prop:=λx vs H Q=>∃z y,x=.str z/\vs=[.str y]/\Q (.int (Txt.count z y)) H
set_option tactic.hygienic false
theorem AA:IM X "str.count" Fp:=by intro a s d H x f v us Q I b c h;obtain⟨z,y,rfl,rfl,q⟩:=h;obtain⟨t,rfl⟩:=b;obtain⟨u,rfl,e,rfl⟩:=vals1 c;exact SC.count ⟨.int (Txt.count z y),H,I.tok _,⟨_,rfl⟩,q⟩
end
set_option tactic.hygienic false
theorem wQ(z:Str)(c i:Nat)(h:i<z.cps.size):Builtin.Str.subAt z ⟨#[c]⟩ i=(z.cps[i]==c):=by
 unfold Builtin.Str.subAt;have e:z.cps.extract i (i+(Str.length ⟨#[c]⟩))= #[z.cps[i]]:=by
  show z.cps.extract i (i+1)=_
  apply Array.ext;simp;omega
  ·intro j b a
   have:j=0:=by simpa using a
   subst this;simp
 rw[e];simp
theorem hV(z:Str)(c:Nat):∀(n i:Nat)(a:Array Nat×Nat),i+n=z.cps.size->a.snd<=i->a.fst.size<=i -> (forIn (List.range' i (n+1)) a (StrLaws.occBody z ⟨#[c]⟩ z.length (z.length+1))).run.fst.size=a.fst.size+((z.cps.toList.drop i).filter (·==c)).length
 |0,i,a,h,h1,h2=>by rw[show List.range' i (0+1)=[i]from rfl,List.forIn_cons];unfold StrLaws.occBody;rw[LC (λq=>by have:=q.1.2;have e:Str.length ⟨#[c]⟩=1:=rfl;have j:z.length=z.cps.size:=rfl;omega)];rw[List.drop_of_length_le (by rw[LZ];omega)];rfl
 |n+1,i,a,h,h1,h2=>by
  have f:i<z.cps.size:=by omega
  rw[List.range'_succ,List.forIn_cons];unfold StrLaws.occBody;have g:z.cps.toList.drop i=z.cps[i]::z.cps.toList.drop (i+1):=by simp[NJ,f]
  rw[g,Nd,wQ z c i f];have l:Str.length ⟨#[c]⟩=1:=rfl;have j:z.length=z.cps.size:=rfl
  by_cases b:(z.cps[i]==c)=true
  ·rw[K5 ⟨⟨⟨by omega,h1⟩,by omega⟩,b⟩,K5 b]
   have d:=hV z c n (i+1) (a.fst.push i,i+Str.length ⟨#[c]⟩) (by omega) (by show i+1<=i+1;omega) (by show(a.fst.push i).size<=_;rw[Array.size_push];omega);show(forIn (List.range' (i+1) (n+1)) (a.fst.push i,i+Str.length ⟨#[c]⟩) (StrLaws.occBody z ⟨#[c]⟩ z.length (z.length+1))).run.fst.size=_;rw[d,Array.size_push,LK];omega
  ·rw[LC (λq=>b q.2),LC b]
   have d:=hV z c n (i+1) (a.fst,a.snd) (by omega) (by show a.snd<=_;omega) (by show a.fst.size<=_;omega);exact d
theorem lS(z:Str)(c:Nat):Txt.count z ⟨#[c]⟩=((z.cps.toList.filter (·==c)).length:Int):=by unfold Txt.count;rw[StrLaws.occ_eq];have:=hV z c z.cps.size 0 (#[],0) (by omega) (Ky _) (Ky _);rw[LZ];rw[show z.length+1-0=z.cps.size+1 from rfl];rw[this];simp
end L2
namespace L2
open PySem PySem.Spec PyProof.Rows
section
variable{X:Cx}
end
end L2
namespace SW
open PySem PySem.W PyProof.Rows
def run{b:Type}(f:Nat->Nat->Bool):KasT b->b
 | .ret a=>a| .ask i j k=>run f (k (f i j))
def Ok{c:Type}(n:Nat)(P:c->Prop):KasT c->Prop
 | .ret a=>P a| .ask i j k=>i<n/\j<n/\∀b,Ok n P (k b)
theorem Ok.bind{c e:Type}{n:Nat}{P:c->Prop}{R:e->Prop}{g:c->KasT e}(d:∀a,P a->Ok n R (g a)):∀{t:KasT c},Ok n P t->Ok n R (t.bind g)
 | .ret a,h=>d a h| .ask i j k,h=>⟨h.1,h.2.1,λb=>Ok.bind d (h.2.2 b)⟩
theorem Ok.wp{c:Type}{n:Nat}{P:c->Prop}{b:Nat->Nat->(Bool->Shared->Prop)->Shared->Prop}{f:Nat->Nat->Bool}{Q:c->Shared->Prop}{s:Shared}(d:∀i j C,i<n->j<n->C (f i j) s->b i j C s) :
  ∀{t:KasT c},Ok n P t->Q (run f t) s->t.kasWp b Q s
 | .ret a,_,h=>h| .ask i j k,o,h=>d i j _ o.1 o.2.1 (Ok.wp d (o.2.2 _) h)
theorem Ok.out{b:Type}{n:Nat}{P:b->Prop}{f:Nat->Nat->Bool}:∀{t:KasT b},Ok n P t->P (run f t)
 | .ret a,h=>h| .ask i j k,h=>Ok.out (t:=k (f i j)) (h.2.2 _)
def B(n:Nat)(p:Array Nat):Prop:=p.toList.Perm (List.range n)
theorem B.perm{n:Nat}(h:B n p)(b:a.Perm p):B n a :=(Array.perm_iff_toList_perm.mp b).trans h
set_option tactic.hygienic false
theorem B.lt{n:Nat}(b:0<n)(h:B n p)(x:Nat):p.getD x 0<n:=by
 by_cases a:x<p.size
 ·have e:p.getD x 0=p[x]:=by simp[Array.getD,a]
  rw[e];exact Lg.mp (h.mem_iff.mp (Array.getElem_mem_toList a))
 ·have e:p.getD x 0=0:=by simp[Array.getD,a]
  rw[e];exact b
section
variable{n:Nat}(hn:0<n)
include hn
theorem tQ{p:Array Nat}(h:B n p):∀k m,Ok n (λ_=>True) (kas_asc p k m)
 |0,_=>trivial|k+1,m=>⟨h.lt hn _,h.lt hn _,λb=>by cases b<;>first|exact trivial|exact tQ h k (m+1)⟩
theorem kH:∀(k:Nat)(p:Array Nat)(m q:Nat),B n p->Ok n (λr=>B n r.1) (kas_desc k p m q)
 |0,p,_,_,h=>h|k+1,p,m,q,h=>⟨h.lt hn _,h.lt hn _,λb=>by
  cases b with
  |true =>
   show Ok n _ (if q>0 then kas_desc k (kas_rev p (m-(q+1)) m) (m+1) 0 else kas_desc k p (m+1) 0)
   split;exact kH k _ _ _ (h.perm (mirror_perm _ _ _ _));exact kH k _ _ _ h
  |false=>exact⟨h.lt hn _,h.lt hn _,λb=>by
    cases b
    ·exact kH k p (m+1) (q+1) h
    ·exact h⟩⟩
theorem qR{m:Nat}(h:B n p):Ok n (λr=>B n r.2) (kas_tail3 m r p):=by refine Ok.bind (λ_ _=> ?_) (tQ hn (h.perm (mirror_perm _ _ _ _)) _ _);exact h.perm (mirror_perm _ _ _ _)
theorem jo{m:Nat}(h:B n p):Ok n (λr=>B n r.2) (kas_descPart m r p):=by
 refine Ok.bind (λa ha=> ?_) (kH hn _ _ _ _ h)
 split;exact qR hn (ha.perm (mirror_perm _ _ _ _));exact qR hn ha
theorem zj(h:B n p):Ok n (λr=>B n r.2) (kas_count r p):=by
 refine Ok.bind (λa _=> ?_) (tQ hn h _ _)
 split;exact h
 ·split
  ·exact⟨h.lt hn _,h.lt hn _,λb=>by
    cases b
    ·exact jo hn (h.perm (mirror_perm _ _ _ _))
    ·exact h⟩
  ·exact jo hn h
theorem kz{p:Array Nat}{m:Nat}(h:B n p):∀k l r,Ok n (λ_=>True) (kas_place p m k l r)
 |0,_,_=>trivial|k+1,l,r=>by
  unfold kas_place
  split;exact trivial
  ·exact⟨h.lt hn _,h.lt hn _,λb=>by
    cases b
    ·exact kz h k _ _
    ·exact kz h k _ _⟩
theorem zk:∀(k:Nat)(p:Array Nat)(m:Nat),B n p->Ok n (λp=>B n p) (kas_bin k p m)
 |0,_,_,h=>h|k+1,p,m,h=>Ok.bind (λl _=>zk k _ _ (h.perm (bubble_perm _ _ _))) (kz hn h _ _ _)
theorem oG:Ok n (λp=>B n p) (kas_sort n):=by
 have a:B n (List.toArray (List.range n)):=.refl _;refine Ok.bind (λr hr=> ?_) (zj hn a)
 split;exact zk hn _ _ _ hr;exact hr
end
section
variable{prog:Program}{w:World}{A:Around}{E:Value->Shared->Prop}{s:Shared}
def vG(f:Nat->Nat->Bool)(a:List Value):List Value:=(run f (kas_sort a.length)).toList.map λi=>a.getD i Value.none
theorem Cn(h:1<=a.length):(vG f a).length=a.length:=by unfold vG;rw[Kr,(oG h).out.length_eq,LX]
theorem C6{n:Nat}{κ:SortKind}{f:Nat->Nat->Bool}{P:PySem.Fin->Shared->Prop}(ho:s.heap.get? a=some (seqObj "list" vs.toArray n))(h2:2<=vs.length)(h64:vs.length<64)
  (hk:∀(s1:Shared)(Q:SortKind->Shared->Prop),(∀b o,b≠a->s.heap.get? b=some o->s1.heap.get? b=some o)->Q κ s1->wpAny (model prog w) A (keyKind' vs.toArray) Q E s1)
  (hc:∀(s1:Shared) i j C,(∀b o,b≠a->s.heap.get? b=some o->s1.heap.get? b=some o)->i<vs.length->j<vs.length->C (f i j) s1->kas_ask prog w A κ vs i j C s1)
  (h:P (.done (.ret .none)) {s with heap:=sortedHeap s.heap a vs (vG f vs).toArray}) :
  wpAny (model prog w) A (Builtin.«list.sort» ⟨[.ref a],[]⟩) P E s:=by
 rw[list_sort_plain];refine Ku (listItems_at ho rfl (Ku (listUpdate_at ho rfl ?_ (by rw[K1,Lp];omega) (LY _))));obtain⟨e1,g1⟩:∃e1,(s.heap.update a (Obj.mapSeq λ_=>(#[]:Array Value))).get? a=some (seqObj "list" #[] e1):=⟨_,get?_update_seq ho λ_=> #[]⟩;refine Ku (seqEpoch_at g1 rfl (Ku (wpAny_newTuple ?_ (by show vs.length<=_;rw[Lp];omega))));refine Ku (wpAny_newList ?_ (LY _));refine MH ?_;have g2:(((s.heap.update a (Obj.mapSeq λ_=>(#[]:Array Value))).push (seqObj "tuple" vs.toArray 0)).push (seqObj "list" #[] 0)).get? a=some (seqObj "list" #[] e1):=Ks _ (Ks _ g1)
 have old:∀b o,b≠a->s.heap.get? b=some o->(((s.heap.update a (Obj.mapSeq λ_=>(#[]:Array Value))).push (seqObj "tuple" vs.toArray 0)).push (seqObj "list" #[] 0)).get? b=some o:=λb o nb e =>Ks _ (Ks _ (by rw[Lz _ _ (MC nb)];exact e))
 dsimp only;have n2:¬vs.toArray.size<2:=by rw[K1];omega
 rw[LC n2,LC n2];refine Ku (hk _ _ old ?_)
 refine Ku (MF (kat_run (Q:=λst' s' =>∃p:Array Nat,p=run f (kas_sort vs.length)/\s' ={s with heap:=((s.heap.update a (Obj.mapSeq λ_=>(#[]:Array Value))).push (seqObj "tuple" vs.toArray 0)).push (seqObj "list" #[] 0)}/\arrOf st' =p.map (kas_item (vs.toArray.zip vs.toArray))/\failedOf st' =none) (G:=λp s' =>p=run f (kas_sort vs.length)/\s' ={s with heap:=((s.heap.update a (Obj.mapSeq λ_=>(#[]:Array Value))).push (seqObj "tuple" vs.toArray 0)).push (seqObj "list" #[] 0)}) rfl h2 h64 (λp' st' s' _ a2 a3 a4=>⟨p',a4.1,a4.2,a2,a3⟩) ((oG (by omega)).wp (λi j C hi hj q=>hc _ i j C old hi hj q) ⟨rfl,rfl⟩)) ?_ λ_ _ e=>e)
 rintro⟨⟨⟩,st'⟩ s' ⟨p,rfl,rfl,har,hf⟩;dsimp only;have hout:(arrOf st').map (·.2)=(vG f vs).toArray:=kat_snds rfl har;rw[hout];refine Ku (seqEpoch_at g2 rfl ?_);refine Ku (listUpdate_at g2 rfl ?_ (LY _) (by rw[K1,Cn (by omega),Lp];omega));rw[hf];simp only[bne_self_eq_false,Nw,NM];exact LS h
end
end SW
set_option maxHeartbeats 400000
namespace SW
open PySem PySem.W PyProof.Rows
def dz(h:Heap)(v:Value)(q:Int×Int):Prop:=∃a t u,v=.ref a/\IsTup h a #[.int q.1 t,.int q.2 u]
set_option tactic.hygienic false
theorem dz.keep{v:Value}(x:dz h v q)(k:∀b o,h.get? b=some o->c.get? b=some o):dz c v q:=by obtain⟨a,t,u,e,z⟩:=x;exact⟨a,t,u,e,z.keeps k⟩
def ltP(p q:Int×Int):Bool:=decide (p.1<q.1\/p.1=q.1/\p.2<q.2)
def xr(a:List (Int×Int)):List Nat:=if a.length<2 then List.range a.length else(run (λi j=>ltP (a.getD i (0,0)) (a.getD j (0,0))) (kas_sort a.length)).toList
theorem lD(a:List (Int×Int)):(xr a).Perm (List.range a.length):=by
 unfold xr
 split;exact .refl _;exact(oG (by omega)).out
section
variable{prog:Program}{w:World}{A:Around}{E:Value->Shared->Prop}{s:Shared}
theorem C4(hx:dz s.heap x p)(hy:dz s.heap y q)(h:C (ltP p q) s):wpAny (model prog w) A (keyLt' (tuples' true) x y) C E s:=by
 obtain⟨a,t,u,rfl,o,ho,-,n,hd⟩:=hx;obtain⟨b,t',u',rfl,o',ho',-,n',hd'⟩:=hy;refine kat_lt ho hd ho' hd' ?_;unfold ltP at h;refine kat_cons (wpAny_eqBool_int (kat_go (λe=>kat_yes (kat_cons (wpAny_eqBool_int (kat_go (λe2=>kat_yes (kat_nil ?_)) λe2=>kat_no (kat_one _ _ (lt_int ?_)))))) λe=>kat_no (oneLt_int ?_)))
 ·have e:=Lx.mp e
  rw[Ld (by omega)]at h;exact h
 ·have e:=Lx.mp e
  rw[show decide _=decide (p.2<q.2)from Nc.mpr (by omega)]at h;exact h
 ·simp at e
  rw[show decide _=decide (p.1<q.1)from Nc.mpr (by omega)]at h;exact h
theorem tZ{ps:List (Int×Int)}{Q:SortKind->Shared->Prop}(q:1<=c.length)(l:Paired (dz s.heap) c ps)(h:Q (tuples' true) s):wpAny (model prog w) A (keyKind' c.toArray) Q E s:=by
 obtain⟨b,f,C,j⟩:∃b,KatTups s.heap c b/\b.length=c.length/\∀v∈b,∃i t,v=.int i t:=by
  clear q h
  induction l with
  |nil=>exact⟨[],.nil,rfl,λv hv=>by cases hv⟩|cons r _ y =>
   obtain⟨b,m,g,e⟩:=y;obtain⟨a,t,u,rfl,o,x,d,n,p⟩:=r;refine⟨_,KatTups.cons x d p rfl m,by simp[g],λv hv=> ?_⟩
   rcases LB.mp hv with z|z
   ·exact⟨_,_,z⟩
   ·exact e v z
 refine kat_kind (T:=.type "int") f (by omega) (λv hv=> ?_) (by decide) h;obtain⟨i,t,rfl⟩:=j v hv;exact .now
theorem wb:∀{a:List Value},a.length<2->(a.toArray.zip a.toArray).map (·.2)=a.toArray
 |[],_=>by simp|[_],_=>by simp|_::_::_,h=>absurd h (by simp)
theorem sy:∀{a:List Value},a.length<2->(List.range a.length).map (λi=>a.getD i Value.none)=a
 |[],_=>rfl|[_],_=>rfl|_::_::_,h=>absurd h (by simp)
theorem qg{n:Nat}{P:PySem.Fin->Shared->Prop}(d:s.heap.get? a=some (seqObj "list" b.toArray n))(f:b.length<2)
  (h:P (.done (.ret .none)) {s with heap:=sortedHeap s.heap a b b.toArray}):wpAny (model prog w) A (Builtin.«list.sort» ⟨[.ref a],[]⟩) P E s:=by
 rw[list_sort_plain];refine Ku (listItems_at d rfl (Ku (listUpdate_at d rfl ?_ (by rw[K1,Lp];omega) (LY _))));obtain⟨e,j⟩:∃e,(s.heap.update a (Obj.mapSeq λ_=>(#[]:Array Value))).get? a=some (seqObj "list" #[] e):=⟨_,get?_update_seq d λ_=> #[]⟩;refine Ku (seqEpoch_at j rfl (Ku (wpAny_newTuple ?_ (by show b.length<=_;rw[Lp];omega))));refine Ku (wpAny_newList ?_ (LY _));refine MH ?_;have g:(((s.heap.update a (Obj.mapSeq λ_=>(#[]:Array Value))).push (seqObj "tuple" b.toArray 0)).push (seqObj "list" #[] 0)).get? a=some (seqObj "list" #[] e):=Ks _ (Ks _ j);dsimp only;have i:b.toArray.size<2:=by rw[K1];exact f
 rw[K5 i,K5 i];refine Ku (LS ?_);refine Ku (LS ?_);have c:(arrOf (SortSt.mk' general' (b.toArray.zip b.toArray) #[] 7 none)).map (·.2)=b.toArray:=by exact wb f
 rw[c];refine Ku (seqEpoch_at g rfl ?_);refine Ku (listUpdate_at g rfl ?_ (LY _) (by rw[K1,Lp];omega));simp only[bne_self_eq_false,Nw,NM];exact LS h
theorem jO{F:Value->Int×Int->Prop}:∀{a:List Value}{b:List (Int×Int)},Paired F a b->∀i,i<a.length->F (a.getD i Value.none) (b.getD i (0,0))
 |_,_,.cons r _,0,_=>r|_,_,.cons _ t,i+1,h=>jO t i (by simpa using h)
theorem nN(hl:s.heap.IsList l vs.toArray)(hp:Paired (dz s.heap) vs ps)(hn:vs.length=ps.length)(h64:vs.length<64)
  (h:Q (.ref (s.heap.objs.size+1)) {s with heap:=sortedAll s.heap vs ((xr ps).map λi=>vs.getD i Value.none).toArray}) :
  wpAny (model prog w) A (call (.builtin "sorted") [.ref l]) Q E s:=by
 refine Calls.call_function_entry kind_sorted plain_sorted entry_sorted (args_sorted1 _) ?_;refine Ku (LS ?_);refine Ku (collect_list hl ?_ (by rw[Lp];omega));refine Ku (wpAny_newList ?_ (by rw[Lp];omega));have hsz:((s.heap.push (seqObj "list" #[] 0)).update s.heap.objs.size (Obj.mapSeq (·++vs.toArray))).objs.size=s.heap.objs.size+1:=by rw[Heap.size_update,size_push']
 have hoL:(((s.heap.push (seqObj "list" #[] 0)).update s.heap.objs.size (Obj.mapSeq (·++vs.toArray))).push (seqObj "list" vs.toArray 0)).get? (s.heap.objs.size+1)=some (seqObj "list" vs.toArray 0):=by rw[<- hsz];exact LO _ rfl
 have keep:∀b o,s.heap.get? b=some o->(((s.heap.push (seqObj "list" #[] 0)).update s.heap.objs.size (Obj.mapSeq (·++vs.toArray))).push (seqObj "list" vs.toArray 0)).get? b=some o:=λb o e=>by have lt:=LG e;refine Ks _ ?_;rw[Lz _ _ (NB lt)];exact Ks _ e
 rw[hsz]
 by_cases h2:vs.length<2
 ·refine Ku (MH (Nq slot_list_sort ⟨_,hoL,rfl⟩ entry_list_sort (qg hoL h2 ⟨_,rfl,?_⟩) (args_list_sort _)))
  unfold xr at h;rw[<- hn,K5 h2,sy h2]at h;exact LS ⟨_,rfl,h⟩
 ·have hp2:∀s1:Shared,(∀b o,b≠s.heap.objs.size+1->(((s.heap.push (seqObj "list" #[] 0)).update s.heap.objs.size (Obj.mapSeq (·++vs.toArray))).push (seqObj "list" vs.toArray 0)).get? b=some o->s1.heap.get? b=some o)->∀{v:Value}{q:Int×Int},dz s.heap v q->dz s1.heap v q:=λs1 k v q x =>
   x.keep λb o e=>k b o (LV (MN (LG e))) (keep b o e)
  refine Ku (MH (Nq slot_list_sort ⟨_,hoL,rfl⟩ entry_list_sort (C6 (κ:=tuples' true) (f:=λi j=>ltP (ps.getD i (0,0)) (ps.getD j (0,0))) hoL (by omega) h64 (λs1 Q1 k q1=> ?_) (λs1 i j C k hi hj c=> ?_) ⟨_,rfl,?_⟩) (args_list_sort _)))
  ·exact tZ (by omega) (L2.Paired.mapP hp λ_ _ x=>hp2 s1 k x) q1
  ·exact C4 (hp2 s1 k (jO hp i hi)) (hp2 s1 k (jO hp j hj)) c
  ·unfold xr at h
   rw[<- hn,LC h2]at h;exact LS ⟨_,rfl,h⟩
end
end SW
namespace L2
open PySem PySem.Spec PyProof.Rows
inductive Hq(K:W.Frag)(H:Hp):List V->List (Int×Int)->Prop
 | nil:Hq K H [] []
 | cons {a:Addr} {q:Int×Int} {us:List V} {ps:List (Int×Int)} (h:cU K H a [.int q.1,.int q.2]) (t:Hq K H us ps):Hq K H (.ref a::us) (q::ps)
set_option tactic.hygienic false
theorem Hq.len{K:W.Frag}{us:List V}(h:Hq K H us a):us.length=a.length:=by
 induction h with
 |nil=>rfl|cons _ _ b=>simp[b]
theorem aN.pick{us:List V}{b:List Value}(r:aN us b):∀{a:List Nat},(∀j∈a,j<us.length)->aN (a.map λi=>us.getD i .non) (a.map λi=>b.getD i Value.none)
 |[],_=>.nil|j::a,h=>by have c:=h j K6;obtain⟨v,d,e⟩:=r.get (Kv c);refine .cons ?_ (aN.pick r λi hi=>h i (Kx _ hi));dsimp only;rw[Kz,Kv c,Kz,d];exact e
section
variable{X:Cx}
theorem jE:bO X (.builtin "sorted") (λxs H Q=>∃(p:Addr)(us:List V)(ps:List (Int×Int)),xs=[.ref p]/\bJ X.K H p us/\Hq X.K H us ps/\us.length<64 /\ ∀a,H a=none->Q (.ref a) (upd H a (.lst ((SW.xr ps).map λi=>us.getD i .non)))):=by
 intro pins s σ H xs us Q I r h;obtain⟨p,ws,ps,rfl,hq,hp,h64,q⟩:=h;obtain⟨u,rfl,rx⟩:=vals1 r;cases rx;obtain⟨its,r',pl,hz⟩:=I.list hq;have hlen:=r'.length;have pr:Paired (SW.dz s.heap) its ps:=by
  clear q h64 hq pl hz hlen
  induction hp generalizing its with
  |nil =>cases r';exact .nil
  |cons ht _ ih =>
   cases r' with
   |cons rv t =>refine .cons ?_ (ih _ t);cases rv;obtain⟨ys,ry,tp,_⟩:=I.tuple ht;obtain⟨y1,y2,rfl,e1,e2⟩:=vals2 ry;obtain⟨t1,rfl⟩:=e1;obtain⟨t2,rfl⟩:=e2;exact⟨_,t1,t2,rfl,tp⟩
 have hn:=hp.len;have pm:=SW.lD ps;rw[<- hn]at pm;refine SW.nN pl.isList pr (by omega) (by omega) ?_;obtain⟨c,hc⟩:=sortedAll_at s.heap its ((SW.xr ps).map λi=>its.getD i Value.none).toArray;refine⟨.ref (s.heap.objs.size+1),_,I.laid (λb o z=>sortedAll_old z) (Ni _) ?_,rfl,q _ (I.hok.fresh (Ni _))⟩;refine⟨?_,(SW.xr ps).map λi=>its.getD i Value.none,c,aN.pick r' λj hj=>Lg.mp (pm.mem_iff.mp hj),by simpa [seqObj]using hc⟩;rw[Kr,pm.length_eq,LX,Lp];omega
end
end L2
namespace SR
open PySem PyProof.Rows
section
variable{prog:Program}{w:World}{A:Around}{E:Value->Shared->Prop}{s:Shared}
set_option tactic.hygienic false
theorem Ir{i:Int}{t:Tok}(b:i.natAbs.log2<1920)(h:∀u a,Q (.str (Str.ofString (toString i)) u) {s with toks:=a}):wpAny (model prog w) A (call (.type "str") [.int i t]) Q E s :=
 callType_new F.called_str (by decide) (F.typeCall_str_1 _) (F.newCall_str_1 _) (λob=>F.args_object_init_2 ob _) F.entry_str_new
  (meets_str_new (S:=λA' R s' =>∀u a,R (.ok (.ret (.str (Str.ofString (toString i)) u))) {s' with toks:=a}) λprog' w' A' R s' q=>W.KPc.strOf_int b (q _ _))
  λu a=>⟨NX _ _ _,h u a⟩
theorem FU{t:Tok}(h:∀u a,Q (.str z u) {s with toks:=a}):wpAny (model prog w) A (call (.type "str") [.str z t]) Q E s :=
 callType_new F.called_str (by decide) (F.typeCall_str_1 _) (F.newCall_str_1 _) (λob=>F.args_object_init_2 ob _) F.entry_str_new
  (meets_str_new (S:=λA' R s' =>∀u a,R (.ok (.ret (.str z u))) {s' with toks:=a}) λprog' w' A' R s' q=>LS (q t s'.toks))
  λu a=>⟨NX _ _ _,h u a⟩
end
end SR
set_option maxHeartbeats 800000
set_option maxHeartbeats 4000000
namespace L2
open PySem PySem.Spec PyProof.Rows PySem.W
section
variable{X:Cx}
set_option tactic.hygienic false
theorem DF{b:List (ah×V)}(r:KV b c):aN (b.map (·.2)) (c.map (·.2)):=by
 induction r with
 |nil=>exact .nil|cons a t d=>exact .cons a.2 d
theorem lW(hc:X.calm=true):bO X (.type "list") (λxs H Q=>∃(p a:Addr)(kvs:List (ah×V)),xs=[.ref p]/\H p=some (li p a)/\H a=some (.dK kvs)/\kvs.length<=sizeLine/\∀b,H b=none->Q (.ref b) (upd H b (.lst (kvs.map (·.2))))):=by
 intro pins s σ H xs us Q I r h;obtain⟨p,a,kvs,rfl,hp,ha,hz,q⟩:=h;obtain⟨u,rfl,rx⟩:=vals1 r;cases rx;obtain⟨z,hd,vs,rel,dd⟩:=m7 I.hok ha;obtain⟨ep,da⟩:=dd.dictAt;obtain⟨hv,_⟩:=(show au X.prog X.w H s.heap p (li p a)from I.hok p _ hp);have hl:=rel.length;refine kdl_call (kdl_values) (I.ok.hd hc) ⟨hv,da⟩ (by omega) λh' tk acc' c' hk hD hacc=> ?_;have e:acc'.toList=vs.map (·.2):=by
  refine List.ext_getElem? λi=> ?_;rw[LA]
  by_cases hi:i<acc'.size
  ·obtain⟨k,e⟩:=hacc.2 i acc'[i] (by simp[hi])
   rw[e,Mz,Array.getElem?_eq_getElem hi];rfl
  ·have:=hacc.1
   rw[MX (by rw[LZ];omega),MX (by omega)];rfl
 refine⟨.ref s.heap.objs.size,_,I.laid (o:=.lst (kvs.map (·.2))) (λb o z=>hk b o z) (Ky _) ⟨by rw[Kr];exact hz,vs.map (·.2),c',DF rel,?_⟩,rfl,q _ (I.hok.fresh (Ky _))⟩;rw[<- e,hD]
end
end L2
set_option genInjectivity false
namespace IR
open PySem
abbrev ah:=L2.ah
inductive PV where
 | non|bl (b:Bool)|int (i:Int)|str (z:Str)|lst (xs:List PV)|tup (xs:List PV)|dK (ks:List ah) (vs:List PV)|dT (ks:List (List ah)) (vs:List PV)
instance:Inhabited PV:=⟨.non⟩
mutual
noncomputable def imm:PV->Bool
 | .non=>true| .bl _=>true| .int _=>true| .str _=>true
 | .lst _=>false
 | .tup xs=>imms xs
 | .dK _ _=>false| .dT _ _=>false
noncomputable def imms:List PV->Bool
 | []=>true
 | x::xs=>imm x&&imms xs
end
inductive Bf where
 | len|int|str|list|tuple|sorted|min|max|sum|abs|all|any|lrange|lrange2|isin (t:String)|sumv|sset|lset|trev|lvals
inductive Bm where
 | join|split|count|index|get|jrev
mutual
inductive IE where
 | con (v:PV)|var (i:Nat)|bin (op:Operator) (a b:IE)|neg (a:IE)|cmp (op:CmpOp) (a b:IE)|chn (o1 o2:CmpOp) (a b c:IE)
 | and (a b:IE)|or (a b:IE)|not (a:IE)|ite (c:IC) (a b:IE)
 | call (f:Nat) (es:BS)|bf (f:Bf) (es:BS)|mth (m:Bm) (o:IE) (es:BS)
 | lst (es:BS)|tup (es:BS)|dnew|dlit (k:ah) (e:IE)|ix (a i:IE)|sl (a:IE) (lo hi:IO)|rev (a:IE)
 | lc (elt:IE) (src:IT) (ifs:Eo) (caps:List Nat)|lc2 (elt:IE) (src:IT) (ifs:Eo) (caps:List Nat)|lcs (a:IE)|never
inductive BS where
 | nil|cons (e:IE) (es:BS)
inductive IO where
 | no|yes (e:IE)
inductive IC where
 | val (e:IE)|not (c:IC)|and (c d:IC)|or (c d:IC)
inductive Eo where
 | no|yes (c:IC)
inductive IT where
 | seq (e:IE)|rng (es:BS)|enum (a:IE)|never
end
mutual
inductive IS where
 | asg (i:Nat) (o:Bool) (cap:List Nat) (e:IE)|ret (cap:List Nat) (e:IE)|retN|ife (c:IC) (a b:kO)
 | forr (is:List Nat) (one:Bool) (cap:List Nat) (src:IT) (body:kO)|whil (c:IC) (body:kO)|pass|brk|cont
 | app (i:Nat) (cap:List Nat) (e:IE)|ins (i:Nat) (k e:IE)|seti (i:Nat) (cap:List Nat) (k e:IE)|drop (e:IE)|aug (i:Nat) (op:Operator) (e:IE)|hand (m:Nat) (g:List PV->Option PV)|rais (x:Str)|never
inductive kO where
 | nil|cons (s:IS) (ss:kO)
end
inductive Bd where
 | lst|dK (ks:List ah)|dT (ks:List (List ah))
def Bd.pv:Bd->List PV->PV
 | .lst,xs=>.lst xs| .dK ks,xs=>.dK ks xs| .dT ks,xs=>.dT ks xs
section
variable{κ α:Type}[DecidableEq κ]
def jy:List κ->List α->κ->Option α
 |k' ::ks,x::xs,k=>if k' =k then some x else jy ks xs k|_,_,_=>none
def kf:List κ->List α->κ->α->List α
 |k' ::ks,x::xs,k,y=>(if k' =k then y else x)::kf ks xs k y|_,xs,_,_=>xs
def putL(a:List κ)(b:List α)(k:κ)(y:α):List α:=if k∈a then kf a b k y else b++[y]
def iQ(a:List κ)(k:κ):List κ:=if k∈a then a else a++[k]
end
def gZ:PV->Option ah
 | .int i=>some (.inl i)| .str z=>some (.inr z)|_=>none
def AM:List PV->Option (List ah)
 |[]=>some []|x::xs=>(gZ x).bind λk=>(AM xs).map (k::·)
inductive TV where
 | un|frz (v:PV) (n:Bool)|own (xs:List PV) (n:Bool)|owd (b:Bd) (xs:List PV) (n:Bool)
def TV.ob:TV->Option (Bd×List PV×Bool)
 | .own a n=>some (.lst,a,n)| .owd b a n=>some (b,a,n)|_=>none
abbrev En:=List TV
def TV.valD:TV->PV
 | .frz v _=>v|_=>.non
inductive RV where
 | frz (v:PV) (n:Bool)|bor (v:PV)|own (xs:List PV) (n:Bool)|owd (b:Bd) (xs:List PV) (n:Bool)
def RV.val:RV->PV
 | .frz v _=>v| .bor v=>v| .own a _=>.lst a| .owd b a _=>b.pv a
abbrev sc(v:PV):RV:=.frz v true
def RV.keep:RV->Option (PV×Bool)
 | .frz v n=>some (v,n)| .bor v=>if imm v then some (v,true)else none| .own a n=>some (.lst a,n)| .owd b a n=>some (b.pv a,n)
def fQ(v:PV):RV:=if imm v then .frz v true else .bor v
def RV.its:RV->Option (List PV×Bool)
 | .frz (.lst a) n=>some (a,n)| .frz (.tup a) n=>some (a,n)| .own a n=>some (a,n)| .bor (.lst a)=>if imms a then some (a,true)else none| .bor (.tup a)=>if imms a then some (a,true)else none|_=>none
abbrev LN:Nat:=16777216
open L2 (sH dH)
def signs(z:Str):List PV:=z.cps.toList.map λc=>.str ⟨#[c]⟩
def fB(a:List PV)(n:Bool):Option RV:=if a.length<=LN then some (.own a n)else none
def w5(a:List PV)(n:Bool):Option RV:=if a.length<=LN then some (.frz (.tup a) n)else none
def uV(a b:RV):Option RV :=
 match a.val,b.val with
 | .int i,.int j=>some (sc (.int (i+j)))| .str x,.str y=>if x.length+y.length<=LN then some (sc (.str (x++y)))else none| .lst _,.lst _=>match a.its,b.its with
  |some (xs,n),some (ys,m)=>fB (xs++ys) (n&&m)|_,_=>none
 |_,_=>none
def uT(a b:RV):Option RV :=
 match a.val,b.val with
 | .int i,.int j=>some (sc (.int (i-j)))|_,_=>none
def oq(a b:RV):Option RV :=
 match a.val,b.val with
 | .int i,.int j=>if(-(2^64)<i/\i<2^64)\/(-(2^64)<j/\j<2^64)then some (sc (.int (i*j)))else if i.natAbs<2^2000/\j.natAbs<2^2000 then some (sc (.int (i*j)))else none| .lst _,.int k=>match a with
  | .own c n=>if 0<=k/\k<=1000000/\c.length*k.toNat<=LN then some (.own (List.replicate k.toNat c).flatten n)else none|_=>none
 | .str z,.int k=>if 0<=k/\k<=1000/\z.length<=16 then some (sc (.str ⟨(List.replicate k.toNat z.cps.toList).flatten.toArray⟩))else none|_,_=>none
def fY(a b:RV):Option RV :=
 match a.val,b.val with
 | .int i,.int j=>if 0<j/\j<2^200 then some (sc (.int (i/j)))else none|_,_=>none
def uU(a b:RV):Option RV :=
 match a.val,b.val with
 | .int i,.int j=>if 0<j then some (sc (.int (i%j)))else none|_,_=>none
def cC(c:Operator)(a b:RV):Option RV:=match c with
 | .Add=>uV a b| .Sub=>uT a b| .Mult=>oq a b| .FloorDiv=>fY a b| .Mod=>uU a b|_=>none
def rL:PV->Bool
 | .non=>true| .bl _=>true| .int _=>true| .str _=>true|_=>false
def eqs:PV->PV->Option Bool
 | .int i,.int j=>some (decide (i=j))| .str i,.str j=>some (decide (i=j))| .bl i,.bl j=>some (decide (i=j))| .non,.non=>some true| .non,.int _=>some false| .non,.bl _=>some false| .non,.str _=>some false| .int _,.non=>some false| .bl _,.non=>some false| .str _,.non=>some false
 | .int _,.str _=>some false| .str _,.int _=>some false| .bl _,.str _=>some false| .str _,.bl _=>some false
 |_,_=>none
def Ak:PV->PV->Bool
 | .int i,.int j=>decide (i=j)| .str i,.str j=>decide (i=j)| .bl i,.bl j=>decide (i=j)| .bl b,.int j=>decide ((if b then 1 else 0:Int)=j)| .int j,.bl b=>decide (j=(if b then 1 else 0:Int))| .non,.non=>true|_,_=>false
mutual
noncomputable def rV:PV->PyData
 | .non=>.none
 | .bl b=>.bool b
 | .int i=>.int i
 | .str z=>.str z
 | .lst xs=>.list (fD xs)
 | .tup xs=>.tuple (fD xs)
 | .dK _ _=>.dict []
 | .dT _ _=>.dict []
noncomputable def fD:List PV->List PyData
 | []=>[]
 | x::xs=>rV x::fD xs
end
mutual
noncomputable def uC:PV->PV->Bool
 | .lst xs,.lst ys=>uB xs ys
 | .tup xs,.tup ys=>uB xs ys
 | a,b=>Ak a b
noncomputable def uB:List PV->List PV->Bool
 | [],[]=>true
 | x::xs,y::ys=>uC x y&&uB xs ys
 | [],_::_=>false
 | _::_,[]=>false
end
def pA:Nat->PV->Bool
 |_,.non=>true|_,.bl _=>true|_,.int _=>true|_,.str z=>PyData.strOk z|0,.lst _=>false|0,.tup _=>false|n+1,.lst xs=>xs.all (pA n)|n+1,.tup xs=>xs.all (pA n)|_,.dK _ _=>false|_,.dT _ _=>false
def Ee(x y:PV):Option Bool:=match eqs x y with
 |some b=>some b|none=>if pA 12 x&&pA 12 y then some (uC x y)else none
def vV(x:PV)(a:List PV):Option Bool :=
 if rL x/\a.all rL then some (a.any λy=>Ak y x)else if pA 12 x&&a.all (pA 12)then some (a.any λy=>uC y x)else none
def Az(a b:PV):Option Bool :=
 match a,b with
 | .int i,.int j=>some (decide (i<j))|_,_=>none
def uJ(a b:PV):Option Bool :=
 match a,b with
 | .int i,.int j=>some (decide (i<=j))|_,_=>none
def A2(a b:PV):Option Bool :=
 match a,b with
 | .int i,.int j=>some (decide (j<i))|_,_=>none
def uK(a b:PV):Option Bool :=
 match a,b with
 | .int i,.int j=>some (decide (j<=i))|_,_=>none
def A0(a b:PV):Option Bool :=
 match a,b with
 | .non,.non=>some true|x,.non=>some false|_,_=>none
def lU(a b:PV):Option Bool :=
 match a,b with
 | .non,.non=>some false|x,.non=>some true|_,_=>none
def A1(a b:PV):Option Bool :=
 match a,b with
 |x,.lst ys=>vV x ys|x,.tup ys=>vV x ys|_,_=>none
def lT(a b:PV):Option Bool :=
 match a,b with
 |x,.lst ys=>(vV x ys).map (!·)|_,_=>none
def bU(c:CmpOp)(a b:PV):Option Bool:=match c with
 | .Lt=>Az a b| .LtE=>uJ a b| .Gt=>A2 a b| .GtE=>uK a b| .Eq=>Ee a b| .NotEq=>(Ee a b).map (!·)| .Is=>A0 a b| .IsNot=>lU a b| .In=>A1 a b| .NotIn=>lT a b
def mJ:PV->Option Bool
 | .non=>some false| .bl b=>some b| .int i=>some (i !=0)| .str z=>if z.length<=LN then some ((z.length:Int) !=0)else none| .lst a=>some !a.isEmpty| .tup a=>some !a.isEmpty| .dK c _=>some !c.isEmpty| .dT _ _=>none
def cJ:PV->Option Nat
 | .str z=>if z.length<=LN then some z.length else none| .lst a=>some a.length| .tup a=>some a.length| .dK b _=>some b.length|_=>none
def eN(t:String):PV->Option Bool
 | .non=>if t="int"\/t="str"\/t="list"\/t="tuple"\/t="bool" then some false else none| .bl _=>if t="int"\/t="bool" then some true else if t="str"\/t="list"\/t="tuple" then some false else none| .int _=>if t="int" then some true else if t="bool"\/t="str"\/t="list"\/t="tuple" then some false else none| .str _=>if t="str" then some true else if t="bool"\/t="int"\/t="list"\/t="tuple" then some false else none| .lst _=>if t="list" then some true else if t="bool"\/t="int"\/t="str"\/t="tuple" then some false else none| .tup _=>if t="tuple" then some true else if t="bool"\/t="int"\/t="str"\/t="list" then some false else none| .dK _ _=>if t="bool"\/t="int"\/t="str"\/t="list"\/t="tuple" then some false else none| .dT _ _=>none
def jG:List PV->Option (List Bool)
 |[]=>some []| .bl b::r=>(jG r).map (b::·)|_::_=>none
def bg:List PV->Option (List Str)
 |[]=>some []| .str z::r=>(bg r).map (z::·)|_::_=>none
def aU:List PV->Option (List Int)
 |[]=>some []| .int i::r=>(aU r).map (i::·)|_::_=>none
def bP(a:Str):List Str->Str
 |[]=>⟨#[]⟩|[x]=>x|x::y::r=>x++a++bP a (y::r)
def lrng(n:Nat):List PV:=(List.range n).map λi=>.int (i:Nat)
def zN:PV->Option (Int×Int)
 | .tup c=>(aU c).bind λns=>match ns with
  |[a,b]=>some (a,b)|_=>none
 |_=>none
def iR:List PV->Option (List (Int×Int))
 |[]=>some []|x::r=>(zN x).bind λq=>(iR r).map (q::·)
def km(q:Int×Int):PV:=.tup [.int q.1,.int q.2]
def d8(a:List (Int×Int)):List (Int×Int):=(SW.xr a).map λi=>a.getD i (0,0)
def px(a:List PV):Option RV:=(iR a).bind λps=>if ps.length<64 then some (.own ((d8 ps).map km) true)else none
def ee(b:List PV):Option RV:=match aU b with
 |some a=>if a.length<64 then some (.own ((L2.sortI a).map PV.int) true)else none|none=>px b
def wR:PV->Option RV
 | .int i=>if i.natAbs.log2<1920 then some (sc (.str (Str.ofString (toString i))))else none| .str z=>some (sc (.str z))|_=>none
def Ea:PV->Option RV
 | .dK b a=>if b.length<=LN then(aU a).map λns=>.own (ns.map PV.int) true else none|_=>none
def ju(f:Bf)(e:List RV):Option RV :=
 match f,e with
 | .len,[a]=>(cJ a.val).map λn=>sc (.int (n:Nat))| .int,[a]=>match a.val with
  | .int i=>some (sc (.int i))| .bl b=>some (sc (.int (if b then 1 else 0)))|_=>none
 | .list,[a]=>match a.its with
  |some (c,n)=>some (.own c n)|none=>none
 | .tuple,[a]=>match a.its with
  |some (c,n)=>some (.frz (.tup c) n)|none=>none
 | .all,[a]=>match a.val with
  | .lst c=>(jG c).map λbs=>sc (.bl (bs.all id))|_=>none
 | .sum,[a]=>match a.val with
  | .lst c=>(aU c).map λns=>sc (.int ns.sum)|_=>none
 | .sorted,[a]=>match a.val with
  | .lst c=>ee c|_=>none
 | .sumv,[a]=>match a.val with
  | .dK _ d=>(aU d).map λns=>sc (.int ns.sum)|_=>none
 | .lvals,[a]=>Ea a.val| .str,[a]=>wR a.val| .isin t,[a]=>(eN t a.val).map λb=>sc (.bl b)| .min,[a,b]=>match a.val,b.val with
  | .int i,.int j=>some (sc (.int (if j<i then j else i)))|_,_=>none
 | .max,[a,b]=>match a.val,b.val with
  | .int i,.int j=>some (sc (.int (if j>i then j else i)))|_,_=>none
 | .lrange,[a]=>match a.val with
  | .int i=>if 0<=i/\i<=1000 then some (.own (lrng i.toNat) true)else none|_=>none
 | .lrange2,[a,b]=>match a.val,b.val with
  | .int i,.int j=>if -1000<=i/\j<=1000/\i<=j then some (.own ((List.range (j-i).toNat).map λk=>.int (i+(k:Nat))) true)else none|_,_=>none
 |_,_=>none
def idxS(z y:Str):Option Nat:=(Builtin.Str.occurrences z y 0 z.length 1).head?
def ib(m:Bm)(o:RV)(c:List RV):Option RV :=
 match m,o.val,c with
 | .join,.str sep,[a]=>match a.val with
  | .lst b=>(bg b).bind λys=>if(ys.map (·.length)).sum+ys.length*sep.length<=LN then some (sc (.str (bP sep ys)))else none| .tup b=>(bg b).bind λys=>if(ys.map (·.length)).sum+ys.length*sep.length<=LN then some (sc (.str (bP sep ys)))else none|_=>none
 | .jrev,.str sep,[a]=>match a.val with
  | .str z=>if sep.cps= #[]/\0<z.length/\z.length<=LN then some (sc (.str ⟨z.cps.toList.reverse.toArray⟩))else none|_=>none
 | .count,.str z,[a]=>match a.val with
  | .str y=>some (sc (.int (Txt.count z y)))|_=>none
 | .index,.str z,[a]=>match a.val with
  | .str y=>(idxS z y).map λj=>sc (.int (j:Nat))|_=>none
 | .get,.dK ks vs,[a,d]=>(gZ a.val).bind λk=>match jy ks vs k with
  |some e=>(match o with
   | .frz _ n=>some (.frz e (n||imm e))
   | .bor _=>some (fQ e)|_=>none)
  |none=>some d
 |_,_,_=>none
def index(a i:RV):Option RV :=
 match a,i.val with
 | .frz (.lst xs) n,.int k=>(dH xs k).map λe=>.frz e (n||imm e)
 | .frz (.tup xs) n,.int k=>(dH xs k).map λe=>.frz e (n||imm e)
 | .own xs n,.int k=>(dH xs k).map λe=>.frz e (n||imm e)
 | .bor (.lst xs),.int k=>(dH xs k).map fQ| .bor (.tup xs),.int k=>(dH xs k).map fQ| .frz (.str z) _,.int k=>if z.length<=LN then(dH z.cps.toList k).map λc=>sc (.str ⟨#[c]⟩)else none| .frz (.dK ks vs) n,y=>(gZ y).bind λk=>(jy ks vs k).map λe=>.frz e (n||imm e)
 |_,_=>none
def cut{b:Type}(a:List b)(c d:Option Int):List b:=(a.drop (HT.mR a.length 0 c)).take (HT.mR a.length a.length d-HT.mR a.length 0 c)
def slice(a:RV)(c b:Option Int):Option RV :=
 match a.val with
 | .str z=>if z.length<=LN then(match c,b with
  |none,some k=>if 0<=k then some (sc (.str ⟨(z.cps.toList.take k.toNat).toArray⟩))else none|some k,none=>if 0<=k then some (sc (.str ⟨(z.cps.toList.drop k.toNat).toArray⟩))else none|_,_=>none)else none
 | .lst _=>match a.its with
  |some (xs,n)=>some (.own (cut xs c b) (n||imms xs))
  |none=>none
 |_=>none
def wk(a:RV):Option RV :=
 match a.val with
 | .str z=>if z.length<=LN then some (sc (.str ⟨z.cps.toList.reverse.toArray⟩))else none| .lst _=>match a.its with
  |some (xs,n)=>some (.own xs.reverse n)|none=>none
 |_=>none
def keeps:List RV->Option (List PV×Bool)
 |[]=>some ([],true)|r::rs=>r.keep.bind λ(v,n)=>(keeps rs).map λ(vs,m)=>(v::vs,n&&m)
def j9(a:En)(i:Nat):Option RV :=
 match a[i]? with
 |some (.frz v n)=>some (.frz v n)|some (.own xs _)=>some (.bor (.lst xs))|some (.owd b xs _)=>some (.bor (b.pv xs))|_=>none
def qw:Option RV->Option (Option Int)
 |none=>some none|some r=>match r.val with
  | .int i=>some (some i)|_=>none
def bz(f:PV->Option (Option (PV×Bool))):List PV->Option (List PV×Bool)
 |[]=>some ([],true)|x::xs=>(f x).bind λr=>(bz f xs).map λ(vs,m)=>match r with
  |none=>(vs,m)|some (v,n)=>(v::vs,n&&m)
def iV:PV->Option (PV×PV)
 | .tup [a,b]=>some (a,b)|_=>none
def kd:List RV->Option (List PV)
 |[a]=>match a.val with
  | .int j=>if -(2^62)<=j/\j<2^62 then some ((List.range j.toNat).map λi=>.int (0+(i:Nat)))else none|_=>none
 |[a,b]=>match a.val,b.val with
  | .int i,.int j=>if -(2^62)<=i/\i<2^62/\ -(2^62)<=j/\j<2^62 then some ((List.range (j-i).toNat).map λk=>.int (i+(k:Nat)))else none|_,_=>none
 |[a,b,c]=>match a.val,b.val,c.val with
  | .int i,.int j,.int k=>if k≠0/\k.natAbs<1073741824/\Builtin.Range.small i j k=true then some ((List.range (Builtin.Range.rangeSize i j k).toNat).map λm=>.int (i+(m:Nat)*k))else none|_,_,_=>none
 |_=>none
def DI:PV->Option Int
 | .int i=>some i|_=>none
def lX:PV->Option Bool
 | .bl b=>some b|_=>none
def jn(x:RV):Option (List PV×Bool×Bool):=match x with
  | .frz (.str z) _=>some (signs z,true,false)| .bor (.lst xs)=>if imms xs then some (xs,true,true)else none| .bor (.tup xs)=>if imms xs then some (xs,true,true)else none| .bor _=>none|r=>r.its.map λ(xs,n)=>(xs,n,false)
def dc(i:Nat)(x:PV):PV:=.tup [.int (i:Nat),x]
def Jd:RV->Option (List PV×Bool)
 | .frz (.lst a) n=>some (a,n)| .own a n=>some (a,n)|_=>none
def jq(x:RV):Option (List PV×Bool) :=
 match x with
 | .frz (.str z) _=>some (List.zipWith dc (List.range z.length) (signs z),true)| .frz (.tup xs) n=>some (List.zipWith dc (List.range xs.length) xs,n)|x=>match Jd x with
  |some (xs,n)=>some (List.zipWith dc (List.range xs.length) xs,n)|none=>none
def BX:List ah->List PV->Option (List (Int×Int))
 |[],[]=>some []| .inl k::ks,.int v::vs=>(BX ks vs).map ((k,v)::·)|_,_=>none
def xD:RV->Option RV
 | .frz (.dK ks vs) _=>if ks.length<=LN then(BX ks vs).map λqs=>.own (qs.map λq=>.tup [.int q.2,.int q.1]) true else none|_=>none
section
variable(cd:Nat->List PV->Option PV)
def told:PV->RV
 | .lst a=>.own a true|v=>.frz v true
mutual
noncomputable def aQ:IE->En->Option RV
 | .con v,_=>some (sc v)
 | .var i,τ=>j9 τ i
 | .bin op a b,τ=>(aQ a τ).bind fun x=>(aQ b τ).bind fun y=>cC op x y
 | .neg a,τ=>(aQ a τ).bind fun x=>(DI x.val).map fun i=>sc (.int (-i))
 | .cmp op a b,τ=>(aQ a τ).bind fun x=>(aQ b τ).bind fun y=>(bU op x.val y.val).map fun r=>sc (.bl r)
 | .chn o1 o2 a b c,τ=>(aQ a τ).bind fun x=>(aQ b τ).bind fun y=>(bU o1 x.val y.val).bind fun r=>if r then(aQ c τ).bind fun z=>(bU o2 y.val z.val).map fun r=>sc (.bl r)else some (sc (.bl false))
 | .and a b,τ=>(aQ a τ).bind fun x=>(lX x.val).bind fun t=>if t then aQ b τ else some (sc (.bl false))
 | .or a b,τ=>(aQ a τ).bind fun x=>(lX x.val).bind fun t=>if t then some (sc (.bl true))else aQ b τ
 | .not a,τ=>(aQ a τ).bind fun x=>(lX x.val).map fun b=>sc (.bl !b)
 | .ite c a b,τ=>(cT c τ).bind fun r=>if r then aQ a τ else aQ b τ
 | .call f es,τ=>(dj es τ).bind fun rs=>(cd f (rs.map RV.val)).map told
 | .bf f es,τ=>(dj es τ).bind fun rs=>ju f rs
 | .mth m o es,τ=>(aQ o τ).bind fun x=>(dj es τ).bind fun rs=>ib m x rs
 | .lst es,τ=>(dj es τ).bind fun rs=>(keeps rs).bind fun(vs,n)=>fB vs n
 | .tup es,τ=>(dj es τ).bind fun rs=>(keeps rs).bind fun(vs,n)=>w5 vs n
 | .dnew,_=>some (.owd (.dK []) [] true)
 | .dlit k e,τ=>(aQ e τ).bind fun r=>r.keep.bind fun(v,_)=>if imm v then some (.owd (.dK [k]) [v] true)else none
 | .ix a i,τ=>(aQ a τ).bind fun x=>(aQ i τ).bind fun y=>index x y
 | .sl a lo hi,τ=>(aQ a τ).bind fun x=>(Dh lo τ).bind fun l=>(Dh hi τ).bind fun h=>(qw l).bind fun l' =>(qw h).bind fun h' =>slice x l' h'
 | .rev a,τ=>(aQ a τ).bind fun x=>wk x
 | .lc elt src ifs caps,τ=>(rN src τ).bind fun(xs,n,_)=>if xs.length<=LN then(bz (fun x=>(jV ifs (.frz x (n||imm x)::caps.map fun i=>τ.getD i .un)).bind fun b =>
   if b then(aQ elt (.frz x (n||imm x)::caps.map fun i=>τ.getD i .un)).bind fun r=>r.keep.map some else some none) xs).map fun(vs,m)=>.own vs m else none
 | .lc2 elt src ifs caps,τ=>(rN src τ).bind fun(xs,n,_)=>if xs.length<=LN then(bz (fun x=>(iV x).bind fun(a,b)=>(jV ifs (.frz a (n||imm a)::.frz b (n||imm b)::caps.map fun i=>τ.getD i .un)).bind fun t =>
   if t then(aQ elt (.frz a (n||imm a)::.frz b (n||imm b)::caps.map fun i=>τ.getD i .un)).bind fun r=>r.keep.map some else some none) xs).map fun(vs,m)=>.own vs m else none
 | .lcs a,τ=>(aQ a τ).bind fun x=>xD x
 | .never,_=>none
noncomputable def dj:BS->En->Option (List RV)
 | .nil,_=>some []
 | .cons e es,τ=>(aQ e τ).bind fun x=>(dj es τ).map (x::·)
noncomputable def Dh:IO->En->Option (Option RV)
 | .no,_=>some none
 | .yes e,τ=>(aQ e τ).map some
noncomputable def cT:IC->En->Option Bool
 | .val e,τ=>(aQ e τ).bind fun x=>mJ x.val
 | .not c,τ=>(cT c τ).map (!·)
 | .and c d,τ=>(cT c τ).bind fun r=>if r then cT d τ else some false
 | .or c d,τ=>(cT c τ).bind fun r=>if r then some true else cT d τ
noncomputable def jV:Eo->En->Option Bool
 | .no,_=>some true
 | .yes c,τ=>cT c τ
noncomputable def rN:IT->En->Option (List PV×Bool×Bool)
 | .seq e,τ=>(aQ e τ).bind jn
 | .rng es,τ=>(dj es τ).bind fun rs=>(kd rs).map fun xs=>(xs,true,false)
 | .enum a,τ=>(aQ a τ).bind fun x=>(jq x).map fun(xs,n)=>(xs,n,false)
 | .never,_=>none
end
inductive Fl where
 | nx (τ:En)|bk (τ:En)|ct (τ:En)|rt (v:PV)
def d7(f:Fl)(k:En->Option Fl):Option Fl:=match f with
 | .nx a=>k a| .bk a=>some (.bk a)| .ct a=>some (.ct a)| .rt v=>some (.rt v)
def oX(a:En)(i:Nat):En :=
 match a[i]? with
 |some (.own xs n)=>a.set i (.frz (.lst xs) n)|some (.owd b xs n)=>a.set i (.frz (b.pv xs) n)|_=>a
def bD(a:List Nat)(b:En):En:=a.foldl oX b
def ng(o:Bool)(i:Nat)(r:RV)(a:En):Option En :=
 match o,r with
 |true,.own xs n=>some (a.set i (.own xs n))|true,.owd b xs n=>some (a.set i (.owd b xs n))|_,r=>r.keep.map λ(v,n)=>a.set i (.frz v n)
def dq(n:Bool):List Nat->List PV->En->Option En
 |[],[],τ=>some τ|i::is,x::xs,τ=>dq n is xs (τ.set i (.frz x (n||imm x)))
 |_,_,_=>none
def nU(b:List Nat)(a n:Bool)(x:PV)(c:En):Option En :=
 if a then dq n b [x] c else match x with
  | .tup d=>dq n b d c|_=>none
def setU(b:List Nat)(n:Bool)(x:PV)(c:En):Option En:=match x with
 | .tup a=>dq n b a c| .lst a=>dq n b a c|_=>none
def lK(b:PV->En->Option En)(body:En->Option Fl):List PV->En->Option Fl
 |[],τ=>some (.nx τ)|x::xs,τ=>(b x τ).bind λτ1=>(body τ1).bind λf=>match f with
  | .nx a=>lK b body xs a| .ct a=>lK b body xs a| .bk a=>some (.nx a)| .rt v=>some (.rt v)
def BW(c:En->Option Bool)(body:En->Option Fl):Nat->En->Option Fl
 |0,_=>none|k+1,τ=>(c τ).bind λb=>if b then(body τ).bind λf=>(match f with
  | .nx a=>BW c body k a| .ct a=>BW c body k a| .bk a=>some (.nx a)| .rt v=>some (.rt v))else some (.nx τ)
variable(fu:Nat)
mutual
noncomputable def di:IS->En->Option Fl
 | .asg i o cap e,τ=>let τ1:=bD cap τ;(aQ cd e τ1).bind fun r=>(ng o i r τ1).map .nx
 | .ret cap e,τ=>let τ1:=bD cap τ;(aQ cd e τ1).bind fun r=>r.keep.bind fun(v,n)=>if n then some (.rt v)else none
 | .retN,_=>some (.rt .non)
 | .ife c a b,τ=>(cT cd c τ).bind fun r=>if r then aX a τ else aX b τ
 | .forr is one cap src body,τ=>let τ1:=bD cap τ;(rN cd src τ1).bind fun(xs,n,b)=>if b then none else lK (nU is one n) (fun τ=>aX body τ) xs τ1
 | .whil c body,τ=>BW (fun τ=>cT cd c τ) (fun τ=>aX body τ) fu τ
 | .pass,τ=>some (.nx τ)
 | .brk,τ=>some (.bk τ)
 | .cont,τ=>some (.ct τ)
 | .app i cap e,τ=>let τ1:=bD cap τ;(aQ cd e τ1).bind fun r=>r.keep.bind fun(v,m)=>match τ1[i]? with
  | some (.own xs n)=>if xs.length<LN then some (.nx (τ1.set i (.own (xs++[v]) (n&&m))))else none
  | _=>none
 | .ins i k e,τ=>(aQ cd k τ).bind fun x=>(aQ cd e τ).bind fun r=>r.keep.bind fun(v,m)=>match x.val,τ[i]? with
  | .int j,some (.own xs n)=>if 0<=j/\j<=xs.length/\xs.length<LN then some (.nx (τ.set i (.own (xs.take j.toNat++v::xs.drop j.toNat) (n&&m))))else none
  | _,_=>none
 | .seti i cap k e,τ=>let τ1:=bD cap τ;(aQ cd e τ1).bind fun r=>r.keep.bind fun(v,m)=>(aQ cd k τ1).bind fun x=>match x.val,τ1[i]? with
  | .int j,some (.own xs n)=>(sH xs.length j).map fun q=>.nx (τ1.set i (.own (xs.set q v) (n&&m)))
  | y,some (.owd (.dK ks) xs n)=>(gZ y).bind fun k=>if xs.length<LN then some (.nx (τ1.set i (.owd (.dK (iQ ks k)) (putL ks xs k v) (n&&m))))else none
  | _,_=>none
 | .drop e,τ=>(aQ cd e τ).map fun _=>.nx τ
 | .aug i op e,τ=>(aQ cd e τ).bind fun r=>match τ[i]?,r.val,op with
  | some (.frz (.int x) _),.int y,.Add=>some (.nx (τ.set i (.frz (.int (x+y)) true)))
  | some (.frz (.int x) _),.int y,.Sub=>some (.nx (τ.set i (.frz (.int (x-y)) true)))
  | _,_,_=>none
 | .hand m g,τ=>(g ((τ.take m).map TV.valD)).map .rt
 | .rais _,_=>none
 | .never,_=>none
noncomputable def aX:kO->En->Option Fl
 | .nil,τ=>some (.nx τ)
 | .cons s ss,τ=>(di s τ).bind fun f=>d7 f (fun τ1=>aX ss τ1)
end
end
structure FD where
 nn:Nat
 np:Nat
 body:kO
def entry(d:FD)(a:List PV):En:=a.map (λv=>.frz v (imm v))++List.replicate (d.nn-a.length) .un
def bv:Option Fl->Option PV
 |some (.rt v)=>some v|some (.nx _)=>some .non|_=>none
def aC(P:Nat->Option FD):Nat->Nat->List PV->Option PV
 |0,_,_=>none|k+1,f,vs=>(P f).bind λd=>if vs.length=d.np then bv (aX (aC P k) 1000000 d.body (entry d vs))else none
section
set_option autoImplicit true
set_option relaxedAutoImplicit true
variable{cd:Nat->List PV->Option PV}{fu:Nat}{τ:En}
theorem cQ:aQ cd (.con v) τ=(some (sc v)):=rfl
theorem cV:aQ cd (.var i) τ=(j9 τ i):=rfl
theorem cS:aQ cd (.bin op a b) τ=((aQ cd a τ).bind λx=>(aQ cd b τ).bind λy=>cC op x y):=rfl
theorem cY:aQ cd (.neg a) τ=((aQ cd a τ).bind λx=>(DI x.val).map λi=>sc (.int (-i))):=rfl
theorem cz:aQ cd (.cmp op a b) τ=((aQ cd a τ).bind λx=>(aQ cd b τ).bind λy=>(bU op x.val y.val).map λr=>sc (.bl r)):=rfl
theorem dA:aQ cd (.chn o1 o2 a b c) τ=((aQ cd a τ).bind λx=>(aQ cd b τ).bind λy=>(bU o1 x.val y.val).bind λr=>if r then(aQ cd c τ).bind λz=>(bU o2 y.val z.val).map λr=>sc (.bl r)else some (sc (.bl false))):=rfl
theorem dN:aQ cd (.and a b) τ=((aQ cd a τ).bind λx=>(lX x.val).bind λt=>if t then aQ cd b τ else some (sc (.bl false))):=rfl
theorem dJ:aQ cd (.or a b) τ=((aQ cd a τ).bind λx=>(lX x.val).bind λt=>if t then some (sc (.bl true))else aQ cd b τ):=rfl
theorem dL:aQ cd (.not a) τ=((aQ cd a τ).bind λx=>(lX x.val).map λb=>sc (.bl !b)):=rfl
theorem cv:aQ cd (.ite c a b) τ=((cT cd c τ).bind λr=>if r then aQ cd a τ else aQ cd b τ):=rfl
theorem cR:aQ cd (.call f es) τ=((dj cd es τ).bind λrs=>(cd f (rs.map RV.val)).map told):=rfl
theorem dB:aQ cd (.bf f es) τ=((dj cd es τ).bind λrs=>ju f rs):=rfl
theorem cP:aQ cd (.mth m o es) τ=((aQ cd o τ).bind λx=>(dj cd es τ).bind λrs=>ib m x rs):=rfl
theorem cZ:aQ cd (.lst es) τ=((dj cd es τ).bind λrs=>(keeps rs).bind λ(vs,n)=>fB vs n):=rfl
theorem cW:aQ cd (.tup es) τ=((dj cd es τ).bind λrs=>(keeps rs).bind λ(vs,n)=>w5 vs n):=rfl
theorem cw:aQ cd (.dnew) τ=(some (.owd (.dK []) [] true)):=rfl
theorem cy:aQ cd (.dlit k e) τ=((aQ cd e τ).bind λr=>r.keep.bind λ(v,_)=>if imm v then some (.owd (.dK [k]) [v] true)else none):=rfl
theorem cu:aQ cd (.ix a i) τ=((aQ cd a τ).bind λx=>(aQ cd i τ).bind λy=>index x y):=rfl
theorem cI:aQ cd (.sl a lo hi) τ=((aQ cd a τ).bind λx=>(Dh cd lo τ).bind λl=>(Dh cd hi τ).bind λh=>(qw l).bind λl' =>(qw h).bind λh' =>slice x l' h'):=rfl
theorem cX:aQ cd (.rev a) τ=((aQ cd a τ).bind λx=>wk x):=rfl
theorem cq:aQ cd (.lc elt src ifs caps) τ=((rN cd src τ).bind λ(xs,n,_)=>if xs.length<=LN then(bz (λx=>(jV cd ifs (.frz x (n||imm x)::caps.map λi=>τ.getD i .un)).bind λb =>
   if b then(aQ cd elt (.frz x (n||imm x)::caps.map λi=>τ.getD i .un)).bind λr=>r.keep.map some else some none) xs).map λ(vs,m)=>.own vs m else none):=rfl
theorem ck:aQ cd (.lc2 elt src ifs caps) τ=((rN cd src τ).bind λ(xs,n,_)=>if xs.length<=LN then(bz (λx=>(iV x).bind λ(a,b)=>(jV cd ifs (.frz a (n||imm a)::.frz b (n||imm b)::caps.map λi=>τ.getD i .un)).bind λt =>
   if t then(aQ cd elt (.frz a (n||imm a)::.frz b (n||imm b)::caps.map λi=>τ.getD i .un)).bind λr=>r.keep.map some else some none) xs).map λ(vs,m)=>.own vs m else none):=rfl
theorem ci:aQ cd (.lcs a) τ=((aQ cd a τ).bind λx=>xD x):=rfl
theorem dM:aQ cd (.never) τ=(none):=rfl
theorem pU:dj cd (.nil) τ=(some []):=rfl
theorem pV:dj cd (.cons e es) τ=((aQ cd e τ).bind λx=>(dj cd es τ).map (x::·)):=rfl
theorem z0w:Dh cd (.no) τ=(some none):=rfl
theorem z0x:Dh cd (.yes e) τ=((aQ cd e τ).map some):=rfl
theorem xz:cT cd (.val e) τ=((aQ cd e τ).bind λx=>mJ x.val):=rfl
theorem x4:cT cd (.not c) τ=((cT cd c τ).map (!·)):=rfl
theorem x5:cT cd (.and c d) τ=((cT cd c τ).bind λr=>if r then cT cd d τ else some false):=rfl
theorem x3:cT cd (.or c d) τ=((cT cd c τ).bind λr=>if r then some true else cT cd d τ):=rfl
theorem Eu:jV cd (.no) τ=(some true):=rfl
theorem Et:jV cd (.yes c) τ=(cT cd c τ):=rfl
theorem Ep:rN cd (.seq e) τ=((aQ cd e τ).bind jn):=rfl
theorem Er:rN cd (.rng es) τ=((dj cd es τ).bind λrs=>(kd rs).map λxs=>(xs,true,false)):=rfl
theorem Es:rN cd (.enum a) τ=((aQ cd a τ).bind λx=>(jq x).map λ(xs,n)=>(xs,n,false)):=rfl
theorem IG:rN cd (.never) τ=(none):=rfl
theorem gM:di cd fu (.asg i o cap e) τ=(let a:=bD cap τ;(aQ cd e a).bind λr=>(ng o i r a).map .nx):=rfl
theorem fz:di cd fu (.ret cap e) τ=(let a:=bD cap τ;(aQ cd e a).bind λr=>r.keep.bind λ(v,n)=>if n then some (.rt v)else none):=rfl
theorem fw:di cd fu (.retN) τ=(some (.rt .non)):=rfl
theorem gF:di cd fu (.ife c a b) τ=((cT cd c τ).bind λr=>if r then aX cd fu a τ else aX cd fu b τ):=rfl
theorem gH:di cd fu (.forr is one cap src body) τ=(let a:=bD cap τ;(rN cd src a).bind λ(xs,n,b)=>if b then none else lK (nU is one n) (λτ=>aX cd fu body τ) xs a):=rfl
theorem fq:di cd fu (.whil c body) τ=(BW (λτ=>cT cd c τ) (λτ=>aX cd fu body τ) fu τ):=rfl
theorem gB:di cd fu (.pass) τ=(some (.nx τ)):=rfl
theorem gK:di cd fu (.brk) τ=(some (.bk τ)):=rfl
theorem gJ:di cd fu (.cont) τ=(some (.ct τ)):=rfl
theorem gN:di cd fu (.app i cap e) τ=(let a:=bD cap τ;(aQ cd e a).bind λr=>r.keep.bind λ(v,m)=>match a[i]? with
  |some (.own xs n)=>if xs.length<LN then some (.nx (a.set i (.own (xs++[v]) (n&&m))))else none|_=>none):=rfl
theorem gE:di cd fu (.ins i k e) τ=((aQ cd k τ).bind λx=>(aQ cd e τ).bind λr=>r.keep.bind λ(v,m)=>match x.val,τ[i]? with
  | .int j,some (.own xs n)=>if 0<=j/\j<=xs.length/\xs.length<LN then some (.nx (τ.set i (.own (xs.take j.toNat++v::xs.drop j.toNat) (n&&m))))else none|_,_=>none):=rfl
theorem ft:di cd fu (.seti i cap k e) τ=(let a:=bD cap τ;(aQ cd e a).bind λr=>r.keep.bind λ(v,m)=>(aQ cd k a).bind λx=>match x.val,a[i]? with
  | .int j,some (.own xs n)=>(sH xs.length j).map λq=>.nx (a.set i (.own (xs.set q v) (n&&m)))|y,some (.owd (.dK ks) xs n)=>(gZ y).bind λk=>if xs.length<LN then some (.nx (a.set i (.owd (.dK (iQ ks k)) (putL ks xs k v) (n&&m))))else none|_,_=>none):=rfl
theorem gI:di cd fu (.drop e) τ=((aQ cd e τ).map λ_=>.nx τ):=rfl
theorem gL:di cd fu (.aug i op e) τ=((aQ cd e τ).bind λr=>match τ[i]?,r.val,op with
  |some (.frz (.int x) _),.int y,.Add=>some (.nx (τ.set i (.frz (.int (x+y)) true)))|some (.frz (.int x) _),.int y,.Sub=>some (.nx (τ.set i (.frz (.int (x-y)) true)))|_,_,_=>none):=rfl
theorem gG:di cd fu (.hand m g) τ=((g ((τ.take m).map TV.valD)).map .rt):=rfl
theorem gA:di cd fu (.rais w1) τ=(none):=rfl
theorem gC:di cd fu (.never) τ=(none):=rfl
theorem wF:aX cd fu (.nil) τ=(some (.nx τ)):=rfl
theorem wG:aX cd fu (.cons s ss) τ=((di cd fu s τ).bind λf=>d7 f (λτ1=>aX cd fu ss τ1)):=rfl
end
end IR
namespace IR
open PySem PySem.Spec PyProof.Rows L2
def del(H:Hp)(p:Addr):Hp:=λb=>if b=p then none else H b
def aS(H:Hp)(O:List Addr):Hp:=λb=>if b∈O then none else H b
theorem fV(s:aE H a):aE (del H p) (del a p):=λb o e=>by
 unfold del at e ⊢
 split at e;cases e
 ·rename_i h
  rw[LC h];exact s b o e
theorem aL{O:List Addr}(s:aE H a):aE (aS H O) (aS a O):=λb o e=>by
 unfold aS at e ⊢
 split at e;cases e
 ·rename_i h
  rw[LC h];exact s b o e
set_option tactic.hygienic false
theorem bR:aE (del H p) H:=λb o e=>by
 unfold del at e
 split at e;cases e;exact e
theorem af{O:List Addr}:aE (aS H O) H:=λb o e=>by
 unfold aS at e
 split at e;cases e;exact e
set_option tactic.hygienic true in
theorem vX(h:∀b∈a,b∈O):aE (aS H O) (aS H a):=λb o e=>by
 unfold aS at e ⊢
 split at e;cases e
 ·rename_i n
  rw[LC λz=>n (h b z)];exact e
theorem kK:aS H []=H:=by funext b;unfold aS;simp
section
variable(K:W.Frag)(Hi:Hp)
set_option tactic.hygienic true
mutual
noncomputable def Rp(n:Bool):PV->Hp->V->Prop
 | .non,_,u=>u=.non
 | .bl b,_,u=>u=.bl b
 | .int i,_,u=>u=.int i
 | .str z,_,u=>u=.str z
 | .lst xs,H,u=>∃p us,u=.ref p/\(n=true->Hi p=none/\H p=some (.lst us))/\bJ K H p us/\aJ n xs (del H p) us
 | .tup xs,H,u=>∃p us,u=.ref p/\cU K H p us/\aJ n xs H us
 | .dK ks vs,H,u=>∃p us,u=.ref p/\(n=true->Hi p=none)/\H p=some (.dK (ks.zip us))/\ks.length=us.length/\aJ n vs (del H p) us
 | .dT ks vs,H,u=>∃p us,u=.ref p/\(n=true->Hi p=none)/\H p=some (.dT (ks.zip us))/\ks.length=us.length/\aJ n vs (del H p) us
noncomputable def aJ(n:Bool):List PV->Hp->List V->Prop
 | [],_,us=>us=[]
 | x::xs,H,us=>∃u r,us=u::r/\Rp n x H u/\aJ n xs H r
end
end
section
variable{K:W.Frag}{Hi:Hp}
set_option tactic.hygienic true
mutual
theorem Rp.mono{n:Bool}:∀{v:PV}{H H' :Hp}{u:V},aE H H' ->Rp K Hi n v H u->Rp K Hi n v H' u
 | .non,_,_,_,_,h=>h
 | .bl _,_,_,_,_,h=>h
 | .int _,_,_,_,_,h=>h
 | .str _,_,_,_,_,h=>h
 | .lst xs,_,_,_,s,h=>by
  show∃_,_;obtain⟨p,us,e,q,l,r⟩:=h;exact⟨p,us,e,fun z=>⟨(q z).1,s _ _ (q z).2⟩,s.seq l,aJ.mono (fV s) r⟩
 | .tup xs,_,_,_,s,h=>by
  show∃_,_;obtain⟨p,us,e,l,r⟩:=h;exact⟨p,us,e,s.tup l,aJ.mono s r⟩
 | .dK ks vs,_,_,_,s,h=>by
  show∃_,_;obtain⟨p,us,e,q,l,z,r⟩:=h;exact⟨p,us,e,q,s _ _ l,z,aJ.mono (fV s) r⟩
 | .dT ks vs,_,_,_,s,h=>by
  show∃_,_;obtain⟨p,us,e,q,l,z,r⟩:=h;exact⟨p,us,e,q,s _ _ l,z,aJ.mono (fV s) r⟩
theorem aJ.mono{n:Bool}:∀{xs:List PV}{H H' :Hp}{us:List V},aE H H' ->aJ K Hi n xs H us->aJ K Hi n xs H' us
 | [],_,_,_,_,h=>h
 | x::xs,_,_,_,s,h=>by
  show∃_,_;obtain⟨u,r,e,a,b⟩:=h;exact⟨u,r,e,Rp.mono s a,aJ.mono s b⟩
end
mutual
theorem Rp.weak{n:Bool}:∀{v:PV}{H:Hp}{u:V},Rp K Hi n v H u->Rp K Hi false v H u
 | .non,_,_,h=>h
 | .bl _,_,_,h=>h
 | .int _,_,_,h=>h
 | .str _,_,_,h=>h
 | .lst xs,_,_,h=>by
  show∃_,_;obtain⟨p,us,e,q,l,r⟩:=h;exact⟨p,us,e,(fun z=>absurd z K0),l,aJ.weak r⟩
 | .tup xs,_,_,h=>by
  show∃_,_;obtain⟨p,us,e,l,r⟩:=h;exact⟨p,us,e,l,aJ.weak r⟩
 | .dK ks vs,_,_,h=>by
  show∃_,_;obtain⟨p,us,e,q,l,z,r⟩:=h;exact⟨p,us,e,(fun z=>absurd z K0),l,z,aJ.weak r⟩
 | .dT ks vs,_,_,h=>by
  show∃_,_;obtain⟨p,us,e,q,l,z,r⟩:=h;exact⟨p,us,e,(fun z=>absurd z K0),l,z,aJ.weak r⟩
theorem aJ.weak{n:Bool}:∀{xs:List PV}{H:Hp}{us:List V},aJ K Hi n xs H us->aJ K Hi false xs H us
 | [],_,_,h=>h
 | x::xs,_,_,h=>by
  show∃_,_;obtain⟨u,r,e,a,b⟩:=h;exact⟨u,r,e,Rp.weak a,aJ.weak b⟩
end
set_option tactic.hygienic false
theorem Rp.low{n m:Bool}{v:PV}(h:Rp K Hi n v H u)(e:m=true->n=true):Rp K Hi m v H u:=by
 cases n with
 |true=>cases m with
  |true=>exact h|false=>exact h.weak
 |false=>cases m with
  |true=>cases e rfl|false=>exact h
theorem aJ.low{n m:Bool}{v:List PV}(h:aJ K Hi n v H u)(e:m=true->n=true):aJ K Hi m v H u:=by
 cases n with
 |true=>cases m with
  |true=>exact h|false=>exact h.weak
 |false=>cases m with
  |true=>cases e rfl|false=>exact h
set_option tactic.hygienic true
mutual
theorem Rp.entry{Hj:Hp}{n:Bool}(k:n=true->∀p,Hi p=none->Hj p=none):∀{v:PV}{H:Hp}{u:V},Rp K Hi n v H u->Rp K Hj n v H u
 | .non,_,_,h=>h
 | .bl _,_,_,h=>h
 | .int _,_,_,h=>h
 | .str _,_,_,h=>h
 | .lst xs,_,_,h=>by
  show∃_,_;obtain⟨p,us,e,q,l,r⟩:=h;exact⟨p,us,e,fun z=>⟨k z _ (q z).1,(q z).2⟩,l,aJ.entry k r⟩
 | .tup xs,_,_,h=>by
  show∃_,_;obtain⟨p,us,e,l,r⟩:=h;exact⟨p,us,e,l,aJ.entry k r⟩
 | .dK ks vs,_,_,h=>by
  show∃_,_;obtain⟨p,us,e,q,l,z,r⟩:=h;exact⟨p,us,e,fun z=>k z _ (q z),l,z,aJ.entry k r⟩
 | .dT ks vs,_,_,h=>by
  show∃_,_;obtain⟨p,us,e,q,l,z,r⟩:=h;exact⟨p,us,e,fun z=>k z _ (q z),l,z,aJ.entry k r⟩
theorem aJ.entry{Hj:Hp}{n:Bool}(k:n=true->∀p,Hi p=none->Hj p=none):∀{xs:List PV}{H:Hp}{us:List V},aJ K Hi n xs H us->aJ K Hj n xs H us
 | [],_,_,h=>h
 | x::xs,_,_,h=>by
  show∃_,_;obtain⟨u,r,e,a,b⟩:=h;exact⟨u,r,e,Rp.entry k a,aJ.entry k b⟩
end
def uY(H G:Hp):Prop:=(∀b a,H b=some (.tup a)->G b=some (.tup a))/\∀b o a,H b=some (.frz o (.tup a))->G b=some (.frz o (.tup a))
set_option tactic.hygienic false
theorem uY.at{G:Hp}(t:uY H G)(h:cU K H p a):cU K G p a:=by
 rcases h with(h|⟨o,h⟩)|h
 ·exact .inl (.inl (t.1 _ _ h))
 ·exact .inl (.inr ⟨o,t.2 _ _ _ h⟩)
 ·exact .inr h
set_option tactic.hygienic true
mutual
theorem Rp.imm{n m:Bool}:∀{v:PV}{H G:Hp}{u:V},imm v=true->uY H G->Rp K Hi n v H u->Rp K Hi m v G u
 | .non,_,_,_,_,_,h=>h
 | .bl _,_,_,_,_,_,h=>h
 | .int _,_,_,_,_,_,h=>h
 | .str _,_,_,_,_,_,h=>h
 | .lst xs,_,_,_,i,_,h=>by unfold IR.imm at i;cases i
 | .tup xs,_,_,_,i,t,h=>by
  show∃_,_;unfold IR.imm at i;obtain⟨p,us,e,l,r⟩:=h;exact⟨p,us,e,t.at l,aJ.imm i t r⟩
 | .dK ks vs,_,_,_,i,_,h=>by unfold IR.imm at i;cases i
 | .dT ks vs,_,_,_,i,_,h=>by unfold IR.imm at i;cases i
theorem aJ.imm{n m:Bool}:∀{xs:List PV}{H G:Hp}{us:List V},imms xs=true->uY H G->aJ K Hi n xs H us->aJ K Hi m xs G us
 | [],_,_,_,_,_,h=>h
 | x::xs,_,_,_,i,t,h=>by
  show∃_,_;unfold imms at i;rw[Kt]at i;obtain⟨u,r,e,a,b⟩:=h;exact⟨u,r,e,Rp.imm i.1 t a,aJ.imm i.2 t b⟩
end
set_option tactic.hygienic false
theorem Rp.up{n:Bool}{v:PV}(h:Rp K Hi n v H u):Rp K Hi (n||IR.imm v) v H u:=by
 cases e:IR.imm v with
 |true=>exact Rp.imm e ⟨λ_ _ e=>e,λ_ _ _ e=>e⟩ h|false=>rw[Bool.or_false];exact h
theorem aJ.up{n:Bool}{v:List PV}(h:aJ K Hi n v H u):aJ K Hi (n||IR.imms v) v H u:=by
 cases e:IR.imms v with
 |true=>exact aJ.imm e ⟨λ_ _ e=>e,λ_ _ _ e=>e⟩ h|false=>rw[Bool.or_false];exact h
theorem aJ.len{n:Bool}:∀{c:List PV}{H:Hp}{us:List V},aJ K Hi n c H us->c.length=us.length
 |[],_,_,h=>by rw[show _=_ from h];rfl|x::c,_,_,h=>by obtain⟨u,r,e,a,b⟩:=h;rw[e,LK,LK,aJ.len b]
theorem aJ.at{n:Bool}:∀{c:List PV}{H:Hp}{us:List V}{i:Nat}{x:PV},aJ K Hi n c H us->c[i]? =some x->∃u,us[i]? =some u/\Rp K Hi n x H u
 |[],_,_,_,_,h,e=>by simp at e|y::c,_,_,i,x,h,e=>by
  obtain⟨u,r,rfl,a,b⟩:=h;cases i with
  |zero=>simp at e;subst e;exact⟨u,by simp,a⟩|succ i=>simpa using aJ.at b (by simpa using e)
theorem aJ.at'{n:Bool}:∀{c:List PV}{H:Hp}{us:List V}{i:Nat}{u:V},aJ K Hi n c H us->us[i]? =some u->∃x,c[i]? =some x/\Rp K Hi n x H u
 |[],_,_,_,_,h,e=>by obtain rfl:=h;simp at e|y::c,_,_,i,x,h,e=>by
  obtain⟨u,r,rfl,a,b⟩:=h;cases i with
  |zero=>simp at e;subst e;exact⟨y,by simp,a⟩|succ i=>simpa using aJ.at' b (by simpa using e)
theorem aJ.nil{n:Bool}:aJ K Hi n [] H []:=by rfl
theorem aJ.cons{n:Bool}{x:PV}{c:List PV}{H:Hp}{u:V}{us:List V}(a:Rp K Hi n x H u)(b:aJ K Hi n c H us):aJ K Hi n (x::c) H (u::us):=by exact⟨u,us,rfl,a,b⟩
theorem aJ.app{n:Bool}:∀{c e:List PV}{H:Hp}{us d:List V},aJ K Hi n c H us->aJ K Hi n e H d->aJ K Hi n (c++e) H (us++d)
 |[],_,_,_,_,h,g=>by obtain rfl:=h;exact g|x::c,_,_,_,_,h,g=>by obtain⟨u,r,rfl,a,b⟩:=h;exact .cons a (aJ.app b g)
theorem aJ.take{n:Bool}:∀{c:List PV}{H:Hp}{us:List V}(k:Nat),aJ K Hi n c H us->aJ K Hi n (c.take k) H (us.take k)
 |[],_,_,_,h=>by obtain rfl:=h;simp;exact .nil|x::c,_,_,k,h=>by
  obtain⟨u,r,rfl,a,b⟩:=h;cases k with
  |zero=>exact .nil|succ k=>exact .cons a (aJ.take k b)
theorem aJ.drop{n:Bool}:∀{c:List PV}{H:Hp}{us:List V}(k:Nat),aJ K Hi n c H us->aJ K Hi n (c.drop k) H (us.drop k)
 |[],_,_,_,h=>by obtain rfl:=h;simp;exact .nil|x::c,_,_,k,h=>by
  obtain⟨u,r,rfl,a,b⟩:=h;cases k with
  |zero=>exact .cons a b|succ k=>exact aJ.drop k b
theorem aJ.rev{n:Bool}:∀{c:List PV}{H:Hp}{us:List V},aJ K Hi n c H us->aJ K Hi n c.reverse H us.reverse
 |[],_,_,h=>by obtain rfl:=h;exact .nil|x::c,_,_,h=>by obtain⟨u,r,rfl,a,b⟩:=h;rw[NU,NU];exact aJ.app (aJ.rev b) (.cons a .nil)
theorem aJ.set{n:Bool}:∀{c:List PV}{H:Hp}{us:List V}(k:Nat){x:PV}{u:V},aJ K Hi n c H us->Rp K Hi n x H u->aJ K Hi n (c.set k x) H (us.set k u)
 |[],_,_,_,_,_,h,_=>by obtain rfl:=h;exact .nil|y::c,_,_,k,_,_,h,g=>by
  obtain⟨u,r,rfl,a,b⟩:=h;cases k with
  |zero=>exact .cons g b|succ k=>exact .cons a (aJ.set k b g)
theorem Rp.int{n:Bool}{i:Int}:Rp K Hi n (.int i) H u↔u=.int i:=by rfl
theorem Rp.str{n:Bool}{i:Str}:Rp K Hi n (.str i) H u↔u=.str i:=by rfl
theorem Rp.bl{n:Bool}{i:Bool}:Rp K Hi n (.bl i) H u↔u=.bl i:=by rfl
theorem Rp.non{n:Bool}:Rp K Hi n .non H u↔u=.non:=by rfl
theorem Rp.tup{n:Bool}{a:List PV}{H:Hp}{u:V}:Rp K Hi n (.tup a) H u↔∃p us,u=.ref p/\cU K H p us/\aJ K Hi n a H us:=.rfl
theorem Rp.lst{n:Bool}{a:List PV}{H:Hp}{u:V}:Rp K Hi n (.lst a) H u↔∃p us,u=.ref p/\(n=true->Hi p=none/\H p=some (.lst us))/\bJ K H p us/\aJ K Hi n a (del H p) us:=.rfl
theorem aJ.ints{n:Bool}{H:Hp}:∀{xs:List Int}{us:List V},aJ K Hi n (xs.map PV.int) H us↔us=xs.map V.int
 |[],us=>by rfl|x::xs,us=>by
  rw[K8,K8,aJ]
  constructor
  ·rintro⟨u,r,rfl,a,b⟩
   rw[Rp.int.mp a,aJ.ints.mp b]
  ·rintro rfl
   exact⟨_,_,rfl,Rp.int.mpr rfl,aJ.ints.mpr rfl⟩
def At:Bd->List V->HO->Prop
 | .lst,us,o=>o=.lst us| .dK ks,us,o=>o=.dK (ks.zip us)/\ks.length=us.length| .dT ks,us,o=>o=.dT (ks.zip us)/\ks.length=us.length
def Mo(o:HO):Prop:=∃b us,At b us o
theorem Mo.lst{us:List V}:Mo (.lst us):=⟨.lst,us,rfl⟩
theorem Mo.tup{a:List V}(h:Mo (.tup a)):False:=by
 obtain⟨b,us,h⟩:=h;cases b with
 |lst=>cases h|dK c=>cases h.1|dT c=>cases h.1
variable(K Hi)in
structure aY(O:List Addr)(τ:En)(σ:L2.St)(H:Hp):Prop where
 same:aE Hi H
 own:∀l∈O,Hi l=none/\∃o,H l=some o/\Mo o
 frz:∀(i:Nat)(v:PV)(n:Bool),τ[i]? =some (.frz v n)->∃u,σ[i]? =some (some u)/\Rp K Hi n v (aS H O) u
 obs:∀(i:Nat)(t:TV)(b:Bd)(xs:List PV)(n:Bool),τ[i]? =some t->t.ob=some (b,xs,n)->∃l us o,σ[i]? =some (some (.ref l))/\l∈O/\H l=some o/\At b us o/\aJ K Hi n xs (aS H O) us
 dst:∀(i j:Nat)(t t' :TV)(x y:Bd×List PV×Bool)(l:Addr),τ[i]? =some t->t.ob=some x->τ[j]? =some t' ->t'.ob=some y->σ[i]? =some (some (.ref l))->σ[j]? =some (some (.ref l))->i=j
section
variable{O:List Addr}{τ:En}{σ:L2.St}{H H' :Hp}
theorem aY.owns(R:aY K Hi O τ σ H)(i:Nat)(a:List PV)(n:Bool)(e:τ[i]? =some (.own a n)):∃l us,σ[i]? =some (some (.ref l))/\l∈O/\H l=some (.lst us)/\aJ K Hi n a (aS H O) us:=by obtain⟨l,us,o,d,b,c,g,f⟩:=R.obs i _ .lst a n e rfl;cases g;exact⟨l,us,d,b,c,f⟩
theorem aY.ext(R:aY K Hi O τ σ H)(s:aE H H'):aY K Hi O τ σ H' where
 same:=R.same.trans s
 own:=λl hl=>⟨(R.own l hl).1,by obtain⟨o,e,m⟩:=(R.own l hl).2;exact⟨o,s _ _ e,m⟩⟩
 frz:=λi v n e=>by obtain⟨u,c,a⟩:=R.frz i v n e;exact⟨u,c,a.mono (aL s)⟩
 obs:=λi t b xs n e ht=>by obtain⟨l,us,o,c,a,d,g,f⟩:=R.obs i t b xs n e ht;exact⟨l,us,o,c,a,s _ _ d,g,f.mono (aL s)⟩
 dst:=R.dst
theorem aY.tups(R:aY K Hi O τ σ H):uY H (aS H O):=by
 refine⟨λb xs e=> ?_,λb o xs e=> ?_⟩
 ·unfold aS
  rw[LC λz=> ?_]
  ·exact e
  ·obtain⟨us,a,m⟩:=(R.own b z).2
   rw[e]at a;cases a;exact m.tup
 ·unfold aS
  rw[LC λz=> ?_]
  ·exact e
  ·obtain⟨us,a,m⟩:=(R.own b z).2
   rw[e]at a;cases a;obtain⟨b,us,m⟩:=m;cases b with
   |lst=>cases m|dK c=>cases m.1|dT c=>cases m.1
set_option tactic.hygienic true in
theorem bK{a:Type}{l:List a}{i j:Nat}{x y:a}(h:(l.set i x)[j]? =some y):(i=j/\y=x)\/(i≠j/\l[j]? =some y):=by
 rw[N5]at h
 split at h
 ·rename_i e
  split at h;exact .inl ⟨e,(LR h).symm⟩;cases h
 ·rename_i e
  exact .inr ⟨e,h⟩
theorem aY.setF(R:aY K Hi O τ σ H){i:Nat}{v:PV}{n:Bool}{u:V}(C:i<σ.length)(r:Rp K Hi n v (aS H O) u):aY K Hi O (τ.set i (.frz v n)) (σ.set i (some u)) H where
 same:=R.same
 own:=R.own
 frz:=λj w m e=>by
  rcases bK e with⟨rfl,c⟩|⟨g,c⟩
  ·cases c
   exact⟨u,by rw[Ll C],r⟩
  ·obtain⟨s,f,d⟩:=R.frz j w m c
   exact⟨s,by rw[Lf g];exact f,d⟩
 obs:=λj t b xs m e ht=>by
  rcases bK e with⟨rfl,c⟩|⟨g,c⟩
  ·subst c
   cases ht
  ·obtain⟨l,us,o,f,d⟩:=R.obs j t b xs m c ht
   exact⟨l,us,o,by rw[Lf g];exact f,d⟩
 dst:=λa b t t' x y l e1 ht e2 ht' f d=>by
  rcases bK e1 with⟨_,z⟩|⟨p,A⟩
  ·subst z
   cases ht
  ·rcases bK e2 with⟨_,z⟩|⟨h,q⟩
   ·subst z
    cases ht'
   ·rw[Lf p]at f
    rw[Lf h]at d;exact R.dst a b t t' x y l A ht q ht' f d
set_option tactic.hygienic true
theorem aY.setB(R:aY K Hi O τ σ H){i:Nat}{b0:Bd}{n:Bool}{us:List V}{o:HO}(u:Q.ob=some (b0,U,n))(J:i<σ.length)(s:aE H H')(E:H p=none)(W:H' p=some o)(T:At b0 us o)(r:aJ K Hi n U (aS H' (p::O)) us) :
  aY K Hi (p::O) (τ.set i Q) (σ.set i (some (.ref p))) H' :=by
 have N:aE (aS H O) (aS H' (p::O)):=λb o e=>by
  unfold aS at e ⊢
  split at e;cases e
  ·rename_i nb
   have z:=aG e E;rw[LC (by simp[z,nb])];exact s b o e
 have hn:=R.same.free E;refine⟨R.same.trans s,λl M=> ?_,λj w m e=> ?_,λj t b ys m e ht=> ?_,λa b t t' x y l e1 ht e2 ht' f d=> ?_⟩
 ·rcases LB.mp M with rfl|M
  ·exact⟨hn,o,W,_,_,T⟩
  ·obtain⟨q,D,e,m⟩:=R.own l M
   exact⟨q,D,s _ _ e,m⟩
 ·rcases bK e with⟨rfl,h⟩|⟨z,h⟩
  ·rw[<- h]at u
   cases u
  ·obtain⟨u',f,d⟩:=R.frz j w m h
   exact⟨u',by rw[Lf z];exact f,d.mono N⟩
 ·rcases bK e with⟨rfl,h⟩|⟨z,h⟩
  ·subst h
   rw[u]at ht;cases ht;exact⟨p,us,o,by rw[Ll J],K6,W,T,r⟩
  ·obtain⟨l,D,S,f,d,g3,Y,g5⟩:=R.obs j t b ys m h ht
   exact⟨l,D,S,by rw[Lf z];exact f,Kx _ d,s _ _ g3,Y,g5.mono N⟩
 ·have A:∀(c:Nat)t x,τ[c]? =some t->t.ob=some x->σ[c]? =some (some (.ref l))->l≠p:=λc t x e ht g=>by
   obtain⟨b',Z,q⟩:=x;obtain⟨l',D,S,X,q2,q3,_⟩:=R.obs c t b' Z q e ht;rw[X]at g;cases g;exact aG q3 E
  rcases bK e1 with⟨rfl,I⟩|⟨L,I⟩
  ·rw[Ll J]at f
   cases f
   rcases bK e2 with⟨rfl,_⟩|⟨v,C⟩
   ·rfl
   ·rw[Lf v]at d
    exact absurd rfl (A b t' y C ht' d)
  ·rw[Lf L]at f
   rcases bK e2 with⟨rfl,C⟩|⟨v,C⟩
   ·rw[Ll J]at d
    cases d;exact absurd rfl (A a t x I ht f)
   ·rw[Lf v]at d
    exact R.dst a b t t' x y l I ht C ht' f d
theorem aY.setO(R:aY K Hi O τ σ H){i:Nat}{n:Bool}{us:List V}(b:i<σ.length)(s:aE H H')(c:H p=none)(d:H' p=some (.lst us))(r:aJ K Hi n a (aS H' (p::O)) us) :
  aY K Hi (p::O) (τ.set i (.own a n)) (σ.set i (some (.ref p))) H' :=R.setB rfl b s c d rfl r
theorem aY.updB(R:aY K Hi O τ σ H){i:Nat}{t t1:TV}{b1:Bd}{n m:Bool}{us:List V}{o:HO}(e:τ[i]? =some t)(C:t.ob=some (b,N,n))(p:t1.ob=some (b1,Q,m))(A:σ[i]? =some (some (.ref l)))(J:At b1 us o)(r:aJ K Hi m Q (aS H O) us) :
  aY K Hi O (τ.set i t1) σ (L2.upd H l o):=by
 obtain⟨l',vs,o',L,u,g3,g4,g5⟩:=R.obs i t b N n e C;rw[A]at L;cases L;have I:aS (L2.upd H l o) O=aS H O:=by
  funext b
  unfold aS
  split;rfl
  ·rename_i nb
   exact aA λz=>nb (z▸u)
 have hn:=(R.own l u).1;refine⟨λb o q=> ?_,λk hk=> ?_,λj w q z=> ?_,λj f b2 zs q z ht2=> ?_,λa b f s x y c e1 h2 e2 h3 k1 k2=> ?_⟩
 ·rw[aA (aG q hn)]
  exact R.same b o q
 ·obtain⟨q,v,z,X⟩:=R.own k hk
  refine⟨q,?_⟩
  by_cases c:k=l
  ·subst c
   exact⟨o,aD,_,_,J⟩
  ·exact⟨v,by rw[aA c];exact z,X⟩
 ·rw[I]
  rcases bK z with⟨rfl,d⟩|⟨D,d⟩
  ·rw[<- d]at p
   cases p
  ·exact R.frz j w q d
 ·rw[I]
  rcases bK z with⟨rfl,d⟩|⟨D,d⟩
  ·subst d
   rw[p]at ht2;cases ht2;exact⟨l,us,o,A,u,aD,J,r⟩
  ·obtain⟨M,v,T,E,Y,q3,U,q5⟩:=R.obs j f b2 zs q d ht2
   refine⟨M,v,T,E,Y,?_,U,q5⟩;rw[aA λc=> ?_]
   ·exact q3
   ·subst c
    exact D (R.dst i j t f _ _ M e C d ht2 A E)
 ·have g:∀(c:Nat)(f:TV)x,(τ.set i t1)[c]? =some f->f.ob=some x->∃(s:TV)(y:Bd×List PV×Bool),τ[c]? =some s/\s.ob=some y:=λc f x z h=>by
   rcases bK z with⟨rfl,_⟩|⟨_,d⟩
   ·exact⟨_,_,e,C⟩
   ·exact⟨_,_,d,h⟩
  obtain⟨_,_,Z,W⟩:=g a f x e1 h2;obtain⟨_,_,S,w2⟩:=g b s y e2 h3;exact R.dst a b _ _ _ _ c Z W S w2 k1 k2
theorem aY.upd(R:aY K Hi O τ σ H){i:Nat}{n m:Bool}{us:List V}(e:τ[i]? =some (.own c n))(b:σ[i]? =some (some (.ref l)))(r:aJ K Hi m a (aS H O) us) :
  aY K Hi O (τ.set i (.own a m)) σ (L2.upd H l (.lst us)):=R.updB e rfl rfl b rfl r
set_option tactic.hygienic false
theorem Rp.at{n:Bool}{us:List V}{o:HO}{G:Hp}(d:n=true->Hi l=none)(h:G l=some o)(f:At b us o)(r:aJ K Hi n a (del G l) us):Rp K Hi n (b.pv a) G (.ref l):=by
 cases b with
 |lst=>cases f;exact Rp.lst.mpr ⟨l,us,rfl,λz=>⟨d z,h⟩,bJ.of h,r⟩|dK e =>obtain⟨rfl,c⟩:=f;exact⟨l,us,rfl,d,h,c,r⟩
 |dT e =>obtain⟨rfl,c⟩:=f;exact⟨l,us,rfl,d,h,c,r⟩
set_option tactic.hygienic true in
theorem aY.freezeB(R:aY K Hi O τ σ H){i:Nat}{t:TV}{s:List PV}{n:Bool}(e:τ[i]? =some t)(I:t.ob=some (p,s,n)):∃C,aY K Hi C (τ.set i (.frz (p.pv s) n)) σ H/\∀b∈C,b∈O:=by
 obtain⟨l,us,o,D,A,U,N,Q⟩:=R.obs i t p s n e I;refine⟨O.filter λb=>decide (b≠l),?_,λb hb=>(Ly.mp hb).1⟩;have d:∀b,b∈O.filter (λb=>decide (b≠l))↔b∈O/\b≠l:=λb=>by simp
 have v:aE (aS H O) (aS H (O.filter λb=>decide (b≠l))):=vX λb hb=>((d b).mp hb).1;have X:aE (aS H O) (del (aS H (O.filter λb=>decide (b≠l))) l):=λb o z=>by
  unfold aS at z
  split at z;cases z
  ·rename_i E
   have g:b≠l:=λc=>E (c▸A);unfold del aS;rw[LC g,LC λc=>E ((d b).mp c).1];exact z
 have W:aS H (O.filter λb=>decide (b≠l)) l=some o:=by unfold aS;rw[LC λc=>((d l).mp c).2 rfl];exact U
 refine⟨R.same,λb hb=>R.own b ((d b).mp hb).1,λj w m z=> ?_,λj t2 b2 ys m z ht2=> ?_,λa b t2 t3 x y c e1 h2 e2 h3 k1 k2=> ?_⟩
 ·rcases bK z with⟨rfl,f⟩|⟨g,f⟩
  ·cases f
   exact⟨.ref l,D,Rp.at (λ_=>(R.own l A).1) W N (Q.mono X)⟩
  ·obtain⟨u,h,q⟩:=R.frz j w m f
   exact⟨u,h,q.mono v⟩
 ·rcases bK z with⟨rfl,f⟩|⟨g,f⟩
  ·subst f
   cases ht2
  ·obtain⟨r,S,L,h,q,Y,M,Z⟩:=R.obs j t2 b2 ys m f ht2
   exact⟨r,S,L,h,(d r).mpr ⟨q,λc=>by subst c;exact g (R.dst i j _ _ _ _ r e I f ht2 D h)⟩,Y,M,Z.mono v⟩
 ·rcases bK e1 with⟨_,z⟩|⟨_,T⟩
  ·subst z
   cases h2
  ·rcases bK e2 with⟨_,z⟩|⟨_,J⟩
   ·subst z
    cases h3
   ·exact R.dst a b t2 t3 x y c T h2 J h3 k1 k2
theorem aY.freeze(R:aY K Hi O τ σ H)(i:Nat):∃a,aY K Hi a (oX τ i) σ H/\∀b∈a,b∈O:=by
 unfold oX;cases e:τ[i]? with
 |none=>exact⟨O,R,λb hb=>hb⟩|some t =>
  cases t with
  |un=>exact⟨O,R,λb hb=>hb⟩|frz v n=>exact⟨O,R,λb hb=>hb⟩|own c n=>exact R.freezeB e rfl|owd b c n=>exact R.freezeB e rfl
theorem aY.freezes:∀{cap:List Nat}{O:List Addr}{c:En},aY K Hi O c σ H->∃a,aY K Hi a (bD cap c) σ H/\∀b∈a,b∈O
 |[],O,_,R=>⟨O,R,λb hb=>hb⟩|i::cap,_,_,R=>by obtain⟨a,h,f⟩:=R.freeze i;obtain⟨e,g,d⟩:=aY.freezes h;exact⟨e,g,λb hb=>f b (d b hb)⟩
variable(K Hi)in
def ae(O:List Addr)(H a :Hp):RV->V->Prop
 | .frz v n,u=>Rp K Hi n v (aS a O) u| .bor v,u=>Rp K Hi false v a u| .own xs n,u=>∃p us,u=.ref p/\H p=none/\a p=some (.lst us)/\aJ K Hi n xs (aS (del a p) O) us| .owd b xs n,u=>∃p us o,u=.ref p/\H p=none/\a p=some o/\At b us o/\aJ K Hi n xs (aS (del a p) O) us
theorem ae.ext(h:ae K Hi O H H' r u)(s:aE H' f):ae K Hi O H f r u:=by
 cases r with
 |frz v n=>exact Rp.mono (aL s) h|bor v=>exact Rp.mono s h|own g n =>obtain⟨p,us,e,a,d,c⟩:=h;exact⟨p,us,e,a,s _ _ d,c.mono (aL (fV s))⟩
 |owd b g n =>obtain⟨p,us,o,e,a,d,i,c⟩:=h;exact⟨p,us,o,e,a,s _ _ d,i,c.mono (aL (fV s))⟩
theorem ae.back(h:ae K Hi O H H' r u)(s:aE f H):ae K Hi O f H' r u:=by
 cases r with
 |frz v n=>exact h|bor v=>exact h|own g n =>obtain⟨p,us,e,a,d,c⟩:=h;exact⟨p,us,e,s.free a,d,c⟩
 |owd b g n =>obtain⟨p,us,o,e,a,d,i,c⟩:=h;exact⟨p,us,o,e,s.free a,d,i,c⟩
theorem io:aS (del H' p) O=del (aS H' O) p:=by
 funext b
 unfold aS del;dsimp only
 split<;>split<;>(try rfl)<;>simp_all
set_option tactic.hygienic true in
theorem ae.keep{v:PV}{n:Bool}(R:aY K Hi O τ σ H)(h:ae K Hi O H H' r u)(s:aE H H')(e:r.keep=some (v,n)):Rp K Hi n v (aS H' O) u:=by
 cases r with
 |frz w m =>cases e;exact h
 |bor w =>
  have e:(if imm w then some (w,true)else none)=some (v,n):=e
  split at e
  ·rename_i i
   cases e;exact Rp.imm i (R.ext s).tups h
  ·cases e
 |own q m =>
  cases e;obtain⟨p,us,e,a,g,f⟩:=h;have d:aS H' O p=some (.lst us):=by
   unfold aS;rw[LC λz=> ?_]
   ·exact g
   ·obtain⟨j,c,_⟩:=(R.own p z).2
    rw[a]at c;cases c
  exact Rp.lst.mpr ⟨p,us,e,λ_=>⟨R.same.free a,d⟩,bJ.of d,by rw[<- io];exact f⟩
 |owd b q m =>
  cases e;obtain⟨p,us,o,e,a,g,l,f⟩:=h;subst e;have d:aS H' O p=some o:=by
   unfold aS;rw[LC λz=> ?_]
   ·exact g
   ·obtain⟨j,c,_⟩:=(R.own p z).2
    rw[a]at c;cases c
  exact Rp.at (λ_=>R.same.free a) d l (by rw[<- io];exact f)
theorem ae.val(R:aY K Hi O τ σ H)(h:ae K Hi O H H' r u)(s:aE H H'):Rp K Hi false r.val H' u:=by
 cases r with
 |frz w m=>exact(Rp.mono af h).weak|bor w=>exact h|own a m=>exact(Rp.mono af (h.keep R s rfl)).weak|owd b a m=>exact(Rp.mono af (h.keep R s rfl)).weak
set_option tactic.hygienic true in
theorem ae.its{n:Bool}(R:aY K Hi O τ σ H)(h:ae K Hi O H H' r u)(s:aE H H')(e:r.its=some (c,n)) :
  ∃p us,u=.ref p/\((bJ K H' p us/\∃a,r.val=.lst a)\/(cU K H' p us/\∃a,r.val=.tup a))/\aJ K Hi n c (aS H' O) us:=by
 cases r with
 |frz w m =>
  cases w with
  |lst a =>cases e;obtain⟨p,us,e,_,l,r⟩:=Rp.lst.mp h;exact⟨p,us,e,.inl ⟨(af).seq l,_,rfl⟩,r.mono bR⟩
  |tup a =>cases e;obtain⟨p,us,e,l,r⟩:=Rp.tup.mp h;exact⟨p,us,e,.inr ⟨(af).tup l,_,rfl⟩,r⟩
  |_=>cases e
 |bor w =>
  cases w with
  |lst a =>
   have e:(if imms a then some (a,true)else none)=some (c,n):=e
   split at e
   ·rename_i i
    cases e;obtain⟨p,us,e,_,l,r⟩:=Rp.lst.mp h;exact⟨p,us,e,.inl ⟨l,_,rfl⟩,aJ.imm i (R.ext s).tups (r.mono bR)⟩
   ·cases e
  |tup a =>
   have e:(if imms a then some (a,true)else none)=some (c,n):=e
   split at e
   ·rename_i i
    cases e;obtain⟨p,us,e,l,r⟩:=Rp.tup.mp h;exact⟨p,us,e,.inr ⟨l,_,rfl⟩,aJ.imm i (R.ext s).tups r⟩
   ·cases e
  |_=>cases e
 |own a m =>cases e;obtain⟨p,us,e,g,f,d⟩:=h;exact⟨p,us,e,.inl ⟨bJ.of f,_,rfl⟩,d.mono (aL bR)⟩
 |owd b a m=>cases e
end
end
section
variable{K:W.Frag}{Hi:Hp}{κ:Type}[DecidableEq κ]
theorem uf{n:Bool}{G:Hp}{k:κ}:∀{c:List κ}{f:List PV}{us:List V},aJ K Hi n f G us->c.length=us.length->(jy c f k=none->el (c.zip us) k=none)/\∀e,jy c f k=some e->∃w,el (c.zip us) k=some w/\Rp K Hi n e G w
 |[],f,us,r,d=>by refine⟨λ_=>rfl,λe h=> ?_⟩;unfold jy at h;cases h
 |k' ::c,[],us,r,d=>by obtain rfl:=r;cases d
 |k' ::c,v::f,us,r,d=>by
  obtain⟨u,i,rfl,a,b⟩:=r;have d:c.length=i.length:=by simpa using d
  obtain⟨j,g⟩:=uf b d;rw[Mq];unfold jy
  by_cases e:k' =k
  ·rw[K5 e,iH e]
   exact⟨λz=>(by cases z),λx z=>⟨u,rfl,by cases z;exact a⟩⟩
  ·rw[LC e,iI e]
   exact⟨j,g⟩
theorem oz{k:κ}:∀{ks:List κ}{us:List V},ks.length=us.length->(((ks.zip us).any λkv=>decide (kv.1=k))=true↔k∈ks)
 |[],us,hl=>by simp|k' ::ks,[],hl=>by cases hl|k' ::ks,u::us,hl=>by have a:=oz (k:=k) (by simpa using hl);rw[Mq,Mw,MG,a,LB];simp[eq_comm]
theorem u7{k:κ}{y:V}:∀{ks:List κ}{us:List V},ks.length=us.length->(ks.zip us).map (λkv=>if kv.1=k then(kv.1,y)else kv)=ks.zip (kf ks us k y)/\(kf ks us k y).length=us.length
 |[],us,hl=>⟨by simp,by unfold kf;rfl⟩|k' ::ks,[],hl=>by cases hl|k' ::ks,u::us,hl=>by
  obtain⟨b,a⟩:=u7 (by simpa using hl);unfold kf;refine⟨?_,by rw[LK,a,LK]⟩;rw[Mq,K8,Mq,b]
  by_cases e:k' =k<;>simp[e]
theorem CV{k:κ}{y:V}{us:List V}(b:a.length=us.length):dS (a.zip us) k y=(iQ a k).zip (putL a us k y)/\(iQ a k).length=(putL a us k y).length:=by
 unfold dS iQ putL
 by_cases e:k∈a
 ·rw[K5 ((oz b).mpr e),K5 e,K5 e]
  obtain⟨d,c⟩:=u7 b;exact⟨d,by rw[c];exact b⟩
 ·rw[LC λz=>e ((oz b).mp z),LC e,LC e,List.zip_append b]
  exact⟨rfl,by simp[b]⟩
theorem tG{n:Bool}{G:Hp}{k:κ}{v:PV}{u:V}(f:Rp K Hi n v G u):∀{d:List κ}{c:List PV}{us:List V},aJ K Hi n c G us->aJ K Hi n (kf d c k v) G (kf d us k u)
 |[],c,us,r=>by unfold kf;exact r|k' ::d,[],us,r=>by obtain rfl:=r;unfold kf;exact .nil
 |k' ::d,x::c,us,r=>by
  obtain⟨w,g,rfl,a,b⟩:=r;unfold kf
  by_cases e:k' =k;rw[K5 e,K5 e];exact .cons f (tG f b);rw[LC e,LC e];exact .cons a (tG f b)
theorem Fs{n:Bool}{G:Hp}{k:κ}{v:PV}{us:List V}(c:Rp K Hi n v G u)(r:aJ K Hi n a G us):aJ K Hi n (putL b a k v) G (putL b us k u):=by
 unfold putL
 split;exact tG c r;exact r.app (.cons c .nil)
end
end IR
namespace IR
open PySem
structure Ct where
 N:List Str
 S:List (Str×NameKind)
 F:List (Str×Nat)
 G:List (Str×PV)
 B:List Str
 M:List Nat
def slot:List Str->Str->Option Nat
 |[],_=>none|y::ys,x=>if y==x then some 0 else(slot ys x).map (·+1)
theorem ff:∀{N:List Str}{x:Str}{i:Nat},slot N x=some i->N[i]? =some x
 |[],_,_,h=>by cases h|y::ys,x,i,h=>by
  unfold slot at h
  split at h
  ·rename_i e
   cases h;simp[LW e]
  ·cases e:slot ys x with
   |none=>rw[e]at h;cases h|some j =>
    rw[e]at h;cases h
    simpa using ff e
def Ew(S:List (Str×NameKind))(x:Str):Bool:=S.lookup x==some .local||S.lookup x==some .cell||S.lookup x==some .free
def vK(x:Str):Bool:=x==("__debug__":Str)||x==("__classdict__":Str)||x==("__name__":Str)
def dC(ct:Ct)(x:Str):IE :=
 if vK x then .never else if Ew ct.S x then(match slot ct.N x with
  |some i=>.var i|none=>.never)else if ct.S.lookup x==some .globalImplicit then(match ct.G.lookup x with
   |some v=>.con v|none=>.never)else .never
def cK:Expr->Bool
 | .Set .. =>true|_=>false
def vH:CmpOp->Bool
 | .Lt=>true| .LtE=>true| .Gt=>true| .GtE=>true| .Eq=>true| .NotEq=>true|_=>false
def eT:Expr->Bool
 | .Slice .. =>true|_=>false
def isStar:Expr->Bool
 | .Starred .. =>true|_=>false
def plainB:Expr->Bool
 | .Name .. =>true| .Subscript .. =>true| .Constant .. =>true|_=>false
def nJ:Const->IE
 | .int i=>.con (.int i)| .bool b=>.con (.bl b)| .str z=>.con (.str z)| .none=>.con .non|_=>.never
def lN(c:BoolOp):List IE->IE
 |[]=>.never|[a]=>a|a::b::r=>match c with
  | .And=>.and a (lN c (b::r))| .Or=>.or a (lN c (b::r))
def lL(c:BoolOp):List IC->IC
 |[]=>.val .never|[a]=>a|a::b::r=>match c with
  | .And=>.and a (lL c (b::r))| .Or=>.or a (lL c (b::r))
def vq(x:Str)(k:Nat):Option Bf :=
 if x==("len":Str)&&k==1 then some .len else if x==("int":Str)&&k==1 then some .int else if x==("list":Str)&&k==1 then some .list else if x==("tuple":Str)&&k==1 then some .tuple
 else if x==("all":Str)&&k==1 then some .all else if x==("min":Str)&&k==2 then some .min else if x==("max":Str)&&k==2 then some .max else if x==("abs":Str)&&k==1 then some .abs
 else if x==("any":Str)&&k==1 then some .any else if x==("sum":Str)&&k==1 then some .sum else if x==("sorted":Str)&&k==1 then some .sorted else none
def jf(x:Str)(k:Nat):Option Bf:=if x==("str":Str)&&k==1 then some .str else vq x k
def yH(x:Str):Option String :=
 if x==("int":Str)then some "int" else if x==("bool":Str)then some "bool" else if x==("str":Str)then some "str" else if x==("list":Str)then some "list" else if x==("tuple":Str)then some "tuple" else none
def own(ct:Ct)(x:Str):Bool:=ct.B.contains x&&ct.S.lookup x==some .globalImplicit
def oo:Expr->Option (Str×List Expr)
 | .Call (.Name x _) es [] _=>some (x,es)|_=>none
def mT(S names:List (Str×NameKind)):List (Str×NameKind):=names.map λ(n,k)=>if(k== .free&&true&&S.lookup n==some .cell)then(n,.cell)else(n,k)
def frees(scope:Scope):List Str:=(scope.names.filter λy=>y.2== .free).map (·.1)
def slots(N:List Str):List Str->Option (List Nat)
 |[]=>some []|x::xs=>(slot N x).bind λi=>(slots N xs).map (i::·)
def xE(ct:Ct)(t:Str)(scope:Scope):Bool :=
 scope.kind== .function&&(scope.names.all λy=> !(y.2== .cell)||scope.names.lookup y.1==some .cell)&&(scope.names.all λy=> !(y.2== .local)||scope.names.lookup y.1==some .local) &&
 (scope.names.all λy=> !(y.2== .free)||(ct.S.lookup y.1==some .cell||ct.S.lookup y.1==some .free))&&decide (t::frees scope).Nodup&&(scope.names.lookup t==some .local||scope.names.lookup t==some .cell) &&
 (frees scope).all λx=>scope.names.lookup x==some .free
def blk(ct:Ct)(t:Str)(scope:Scope):Ct:=⟨t::frees scope,mT ct.S scope.names,ct.F,ct.G,ct.B,[]⟩
def ii(ct:Ct)(t a:Str)(scope:Scope):Bool :=
 scope.kind== .function&&(scope.names.all λy=> !(y.2== .cell)||scope.names.lookup y.1==some .cell)&&(scope.names.all λy=> !(y.2== .local)||scope.names.lookup y.1==some .local) &&
 (scope.names.all λy=> !(y.2== .free)||(ct.S.lookup y.1==some .cell||ct.S.lookup y.1==some .free))&&decide (t::a::frees scope).Nodup&&(scope.names.lookup t==some .local||scope.names.lookup t==some .cell)&&(scope.names.lookup a==some .local||scope.names.lookup a==some .cell) &&
 (frees scope).all λx=>scope.names.lookup x==some .free
def blk2(ct:Ct)(t a:Str)(scope:Scope):Ct:=⟨t::a::frees scope,mT ct.S scope.names,ct.F,ct.G,ct.B,[]⟩
def xA:List IE->BS
 |[]=>.nil|e::es=>.cons e (xA es)
def qW:Expr->Option Str
 | .Name x _=>some x|_=>none
def iZ:Expr->Option (Str×Str)
 | .Tuple c _ _=>(match c with
  |[a,b]=>(qW a).bind λx=>(qW b).map λy=>(x,y)|_=>none)
 |_=>none
def EM:Expr->Bool
 | .Subscript .. =>true|_=>false
def oh:Expr->Option Expr
 | .Call f d b a=>if d.isEmpty&&b.isEmpty then(match f with
  | .Attribute o m c=>if m==("items":Str)&&c.endLine==a.line&&(EM o||plainB o)then some o else none
  |_=>none)else none
 |_=>none
def vU:IE->Nat->Bool
 | .var i,j=>i==j|_,_=>false
def uh(a:List Comprehension):Option (Str×Str×Expr×List Expr):=match a with
 |[g]=>if g.is_async=0 then(iZ g.target).map λw=>(w.1,w.2,g.iter,g.ifs)else none|_=>none
set_option tactic.hygienic false
theorem qV(h:qW e=some x):∃p,e=.Name x p:=by
 unfold qW at h
 split at h;cases h;exact⟨_,rfl⟩;cases h
theorem Cv(h:((qW a).bind λx=>(qW b).map λy=>(x,y))=some q):∃p d,a=.Name q.1 p/\b=.Name q.2 d:=by
 cases c:qW a with
 |none=>rw[c]at h;cases h|some x =>
  cases e:qW b with
  |none=>rw[c,e]at h;cases h|some y =>rw[c,e]at h;cases h;obtain⟨p,rfl⟩:=qV c;obtain⟨d,rfl⟩:=qV e;exact⟨p,d,rfl,rfl⟩
theorem jP(h:iZ e=some q):∃p a k b,e=.Tuple [.Name q.1 p,.Name q.2 a] k b:=by
 unfold iZ at h
 split at h
 ·split at h
  ·obtain⟨p,a,rfl,rfl⟩:=Cv h
   exact⟨p,a,_,_,rfl⟩
  ·cases h
 ·cases h
set_option tactic.hygienic true
theorem wI{t:Str}(h:uh e=some (t,g,a,b)):∃j d l f,e=[⟨.Tuple [.Name t j,.Name g d] l f,a,b,0⟩]:=by
 match e,h with
 |[],h=>cases h|_::_::_,h=>cases h|[⟨tg,it,fs,as⟩],h =>
  have c :(if as=0 then(iZ tg).map λw=>(w.1,w.2,it,fs)else none)=some (t,g,a,b):=h
  split at c
  ·rename_i m
   subst m
   cases i:iZ tg with
   |none=>rw[i]at c;cases c|some w =>rw[i]at c;cases c;obtain⟨o,p,k,n,rfl⟩:=jP i;exact⟨_,_,_,_,rfl⟩
  ·cases c
theorem uH(h:oh e=some d):∃g a,e=.Call (.Attribute d "items" g) [] [] a/\(g.endLine==a.line)=true/\(EM d||plainB d)=true:=by
 unfold oh at h
 split at h
 ·rename_i f m l a
  split at h
  ·rename_i c
   rw[Kt,List.isEmpty_iff,List.isEmpty_iff]at c;obtain⟨rfl,rfl⟩:=c
   split at h
   ·split at h
    ·rename_i c
     simp only[Kt]at c;cases h;obtain⟨⟨b,i⟩,j⟩:=c;have b:=LW b;subst b;exact⟨_,_,rfl,i,j⟩
    ·cases h
   ·cases h
  ·cases h
 ·cases h
set_option tactic.hygienic false
theorem ml(h:vU e j=true):e=.var j:=by
 unfold vU at h
 split at h
 ·have h:=LW h
  subst h;rfl
 ·cases h
def uo(f:Str)(ct:Ct)(a:Expr)(b:List Comprehension)(scope:Scope):Option Expr:=if f==("sorted":Str)then(match b with
 |[g]=>(iZ g.target).bind λq=>(oh g.iter).bind λd=>(iZ a).bind λz =>
   if plainB d&&g.ifs.isEmpty&&z.1==q.2&&z.2==q.1&&g.is_async==0&&ii ct q.1 q.2 scope&&decide (frees scope=[])&&vU (dC (blk2 ct q.1 q.2 scope) q.1) 0&&vU (dC (blk2 ct q.1 q.2 scope) q.2) 1 then some d else none
 |_=>none)else none
set_option tactic.hygienic true
theorem wM{ct:Ct}{o:List Comprehension}{scope:Scope}(h:uo f ct a o scope=some d):f=("sorted":Str)/\plainB d=true/\∃x y n r k p i j w v s u,a=.Tuple [.Name y w,.Name x v] s u /\ o=[⟨.Tuple [.Name x n,.Name y r] k p,.Call (.Attribute d "items" i) [] [] j,[],0⟩]/\(i.endLine==j.line)=true /\ ii ct x y scope=true/\frees scope=[]/\dC (blk2 ct x y scope) x=.var 0/\dC (blk2 ct x y scope) y=.var 1:=by
 refine MK λno=> ?_;unfold uo at h
 split at h
 ·rename_i I
  split at h
  ·rename_i g
   obtain⟨K,M,l,J⟩:=g;cases b:iZ K with
   |none=>rw[b]at h;cases h|some q =>
    cases e:oh M with
    |none=>rw[b,e]at h;cases h|some d' =>
     cases m:iZ a with
     |none=>rw[b,e,m]at h;cases h|some z =>
      rw[b,e,m]at h;simp only[K2]at h
      split at h
      ·rename_i c
       cases h;simp only[Kt]at c;obtain⟨⟨⟨⟨⟨⟨⟨⟨U,S⟩,Z⟩,W⟩,E⟩,L⟩,H⟩,c7⟩,T⟩:=c;obtain⟨D,N⟩:=q;obtain⟨O,A⟩:=z;have C:=LW Z;have Q:=LW W;have X:=LW E;have Y:=List.isEmpty_iff.mp S;subst C;subst Q;subst X;subst Y;obtain⟨n,r,k,p,rfl⟩:=jP b;obtain⟨i,j,rfl,R,e2⟩:=uH e;obtain⟨w,v,s,u,rfl⟩:=jP m;exact no ⟨LW I,U,_,_,_,_,_,_,_,_,_,_,_,_,rfl,rfl,R,L,LJ H,ml c7,ml T⟩
      ·cases h
  ·cases h
 ·cases h
mutual
noncomputable def aj:Nat->Ct->Expr->IE
 | 0,_,_=>.never
 | n+1,ct,e=>match e with
  | .Constant c _ _=>nJ c
  | .Name x _=>dC ct x
  | .BinOp a op b _=>.bin op (aj n ct a) (aj n ct b)
  | .UnaryOp op a _=>match op with
   | .USub=>.neg (aj n ct a)
   | .Not=>.not (aj n ct a)
   | _=>.never
  | .Compare a ops cs _=>match ops,cs with
   | [op],[b]=>if cK b then .never else .cmp op (aj n ct a) (aj n ct b)
   | [op,op'],[b,c]=>if cK c|| !vH op' then .never else .chn op op' (aj n ct a) (aj n ct b) (aj n ct c)
   | _,_=>.never
  | .BoolOp op vs _=>if vs.length<2 then .never else lN op (vs.map (aj n ct))
  | .IfExp c a b _=>.ite (lr n ct c) (aj n ct a) (aj n ct b)
  | .List es _=>.lst (eo n ct es)
  | .Tuple es _ _=>.tup (eo n ct es)
  | .Dict ks vs _=>match ks,vs with
   | [],[]=>.dnew
   | [some (.Constant c _ _)],[v]=>match c with
    | .int i=>.dlit (.inl i) (aj n ct v)
    | .str z=>.dlit (.inr z) (aj n ct v)
    | _=>.never
   | _,_=>.never
  | .Subscript a i _=>match i with
   | .Slice lo hi st _=>match st with
    | none=>.sl (aj n ct a) (EH n ct lo) (EH n ct hi)
    | some st=>match lo,hi,st with
     | none,none,.UnaryOp .USub (.Constant (.int 1) _ _) _=>.rev (aj n ct a)
     | _,_,_=>.never
   | i=>.ix (aj n ct a) (aj n ct i)
  | .Call f es ks cp=>match ks with
   | []=>match f with
    | .Name x _=>jL n ct x es
    | .Attribute o m ap=>if ap.endLine==cp.line then mK n ct o m es else .never
    | _=>.never
   | _=>.never
  | .ListComp elt gs scope _=>match gs with
   | [⟨.Name t _,iter,ifs,0⟩]=>if xE ct t scope then(match slots ct.N (frees scope)with
    | some caps=>.lc (aj n (blk ct t scope) elt) (yO n ct false iter) (match ifs with
     | []=>.no
     | [c]=>.yes (lr n (blk ct t scope) c)
     | _=>.yes (.val .never)) caps
    | none=>.never)else .never
   | gs=>(match uh gs with
    | some (t,t2,iter,ifs)=>if ii ct t t2 scope then(match slots ct.N (frees scope)with
     | some caps=>.lc2 (aj n (blk2 ct t t2 scope) elt) (yO n ct true iter) (match ifs with
      | []=>.no
      | [c]=>.yes (lr n (blk2 ct t t2 scope) c)
      | _=>.yes (.val .never)) caps
     | none=>.never)else .never
    | none=>.never)
  | _=>.never
noncomputable def eo:Nat->Ct->List Expr->BS
 | 0,_,_=>.cons .never .nil
 | n+1,ct,es=>xA (es.map fun e=>if isStar e then .never else aj n ct e)
noncomputable def EH:Nat->Ct->Option Expr->IO
 | 0,_,_=>.yes .never
 | n+1,ct,e=>match e with
  | none=>.no
  | some e=>.yes (aj n ct e)
noncomputable def lr:Nat->Ct->Expr->IC
 | 0,_,_=>.val .never
 | n+1,ct,e=>match e with
  | .UnaryOp op a p=>match op with
   | .Not=>.not (lr n ct a)
   | op=>.val (aj n ct (.UnaryOp op a p))
  | .BoolOp op vs _=>lL op (vs.map (lr n ct))
  | .IfExp _ _ _ _=>.val .never
  | e=>.val (aj n ct e)
noncomputable def jL:Nat->Ct->Str->List Expr->IE
 | 0,_,_,_=>.never
 | n+1,ct,x,es=>if vK x then .never else if ct.S.lookup x==some .globalImplicit then(match ct.F.lookup x with
  | some f=>match es with
   | []=>.never
   | es=>.call f (eo n ct es)
  | none=>if ct.B.contains x then(if x==("isinstance":Str)then(match es with
    | [a,.Name t _]=>match yH t with
     | some ty=>if isStar a then .never else if own ct t then .bf (.isin ty) (.cons (aj n ct a) .nil)else .never
     | none=>.never
    | _=>.never)else match es with
     | [.Call (.Attribute o m ap) [] [] cp]=>if x==("sum":Str)&&m==("values":Str)&&plainB o&&ap.endLine==cp.line then .bf .sumv (.cons (aj n ct o) .nil)else if x==("list":Str)&&m==("values":Str)&&plainB o&&ap.endLine==cp.line then .bf .lvals (.cons (aj n ct o) .nil)else(match jf x es.length with
      | some f=>.bf f (eo n ct es)
      | none=>.never)
     | [.ListComp elt gs scope _]=>(match uo x ct elt gs scope with
      | some d=>.bf .sorted (.cons (.lcs (aj n ct d)) .nil)
      | none=>match jf x es.length with
       | some f=>.bf f (eo n ct es)
       | none=>.never)
     | es=>match jf x es.length with
      | some f=>.bf f (eo n ct es)
      | none=>.never)else .never)else .never
noncomputable def mK:Nat->Ct->Expr->Str->List Expr->IE
 | 0,_,_,_,_=>.never
 | n+1,ct,o,m,es=>if plainB o then(match es with
  | [a]=>if isStar a then .never else if m==("join":Str)then .mth .join (aj n ct o) (.cons (aj n ct a) .nil)else if m==("count":Str)then .mth .count (aj n ct o) (.cons (aj n ct a) .nil)else .never
  | _=>.never)else .never
noncomputable def yO:Nat->Ct->Bool->Expr->IT
 | 0,_,_,_=>.never
 | n+1,ct,tp,e=>if cK e then .never else match oo e with
  | some (x,es)=>if x==("range":Str)then(if own ct x then .rng (eo n ct es)else .never)else if x==("zip":Str)then .never else if x==("enumerate":Str)then(match es with
    | [a]=>if isStar a|| !tp|| !own ct x then .never else .enum (aj n ct a)
    | _=>.never)else .seq (aj n ct e)
  | none=>.seq (aj n ct e)
end
def kA:Nat->Ct->Expr->List Nat
 |0,_,_=>[]|n+1,ct,e=>match e with
  | .Name x _=>(slot ct.N x).toList| .List c _=>c.flatMap (kA n ct)| .Tuple c _ _=>c.flatMap (kA n ct)| .IfExp _ a b _=>kA n ct a++kA n ct b|_=>[]
def mE:Nat->Ct->Expr->List Nat
 |0,_,_=>[]|n+1,ct,e=>match e with
  | .Name x _=>(slot ct.N x).toList| .List c _=>c.flatMap (mE n ct)| .Tuple c _ _=>c.flatMap (mE n ct)| .BinOp a _ b _=>mE n ct a++mE n ct b| .IfExp _ a b _=>mE n ct a++mE n ct b| .Call (.Name x _) c _ _=>if x==("tuple":Str)||x==("list":Str)||x==("sorted":Str)then c.flatMap (mE n ct)else[]
  | .ListComp _ d _ _=>d.flatMap λg=>mE n ct g.iter|_=>[]
def KN(ct:Ct)(x:Str)(e:Expr):List Nat:=match e with
 | .BinOp (.Name y _) .Add (.List _ _) _=>(slot ct.N y).toList| .BinOp (.Name y _) .Add _ _=>if y==x then(slot ct.N x).toList else[]|_=>[]
def KO(n:Nat)(ct:Ct)(e:Expr):List Nat:=match oo e with
 |some (x,es)=>if x==("zip":Str)||x==("enumerate":Str)||x==("reversed":Str)then es.flatMap (kA n ct)else[]
 |none=>kA n ct e
def loc(ct:Ct)(x:Str):Option Nat:=if(ct.S.lookup x==some .local||ct.S.lookup x==some .cell)&& !vK x then slot ct.N x else none
def isComp:Expr->Bool
 | .ListComp .. =>true| .SetComp .. =>true| .DictComp .. =>true|_=>false
def zC:Option Expr->Option Expr->Option Str
 |some (.Call (.Name x _) [] [] _),none=>some x|_,_=>none
def locs(ct:Ct):List Expr->Option (List Nat)
 |[]=>some []| .Name x _::es=>(loc ct x).bind λi=>(locs ct es).map (i::·)|_::_=>none
def yN(ct:Ct):Expr->Option (List Nat×Bool)
 | .Name x _=>(loc ct x).map λi=>([i],true)| .Tuple a _ _=>(locs ct a).map λis=>(is,false)|_=>none
mutual
noncomputable def o9:Nat->Ct->Stmt->IS
 | 0,_,_=>.never
 | n+1,ct,s=>match s with
  | .Return v _=>match v with
   | some e=>.ret (mE n ct e) (aj n ct e)
   | none=>.retN
  | .Assign ts e _=>match ts with
   | [.Name x _]=>match loc ct x with
    | some i=>.asg i (ct.M.contains i) (KN ct x e++kA n ct e) (aj n ct e)
    | none=>.never
   | [.Subscript (.Name x _) k _]=>match loc ct x with
    | some i=>if eT k||isComp e then .never else .seti i (kA n ct e) (aj n ct k) (aj n ct e)
    | none=>.never
   | _=>.never
  | .If c a b _=>.ife (lr n ct c) (d6 n ct a) (d6 n ct b)
  | .For tg it body els _=>match els with
   | []=>match yN ct tg with
    | some (is,one)=>.forr is one (KO n ct it) (yO n ct (!one) it) (d6 n ct body)
    | none=>.never
   | _=>.never
  | .While c body els _=>match els with
   | []=>.whil (lr n ct c) (d6 n ct body)
   | _=>.never
  | .Pass _=>.pass
  | .Break _=>.brk
  | .Continue _=>.cont
  | .Expr e _=>match e with
   | .Call (.Attribute (.Name x _) m ap) es [] cp=>if ap.endLine==cp.line then(match loc ct x with
    | some i=>(match es with
     | [a]=>if isStar a then .never else if m==("append":Str)then .app i (kA n ct a) (aj n ct a)else .never
     | [a,b]=>if isStar a||isStar b then .never else if m==("insert":Str)then .ins i (aj n ct a) (aj n ct b)else .never
     | _=>.never)
    | none=>.never)else .never
   | _=>.never
  | .Raise e c _=>match zC e c with
   | some x=>if ct.S.lookup x==some .globalImplicit&& !vK x then .rais x else .never
   | none=>.never
  | .AugAssign t op e _=>match t with
   | .Name x _=>match loc ct x with
    | some i=>.aug i op (aj n ct e)
    | none=>.never
   | _=>.never
  | _=>.never
noncomputable def d6:Nat->Ct->List Stmt->kO
 | 0,_,_=>.cons .never .nil
 | n+1,ct,ss=>match ss with
  | []=>.nil
  | s::ss=>.cons (o9 n ct s) (d6 n ct ss)
end
section
set_option autoImplicit true
set_option relaxedAutoImplicit true
variable{n:Nat}{ct:Ct}
theorem pT:aj 0 w0 w1=.never:=rfl
theorem pO:aj (n+1) ct (.Constant c w1 w2)=(nJ c):=rfl
theorem pJ:aj (n+1) ct (.Name x w1)=(dC ct x):=rfl
theorem pS:aj (n+1) ct (.BinOp a op b w1)=(.bin op (aj n ct a) (aj n ct b)):=rfl
theorem pG:aj (n+1) ct (.UnaryOp op a w1)=(match op with
   | .USub=>.neg (aj n ct a)| .Not=>.not (aj n ct a)|_=>.never):=rfl
theorem pP:aj (n+1) ct (.Compare a ops cs w1)=(match ops,cs with
   |[op],[b]=>if cK b then .never else .cmp op (aj n ct a) (aj n ct b)|[op,op'],[b,c]=>if cK c|| !vH op' then .never else .chn op op' (aj n ct a) (aj n ct b) (aj n ct c)
   |_,_=>.never):=rfl
theorem pR:aj (n+1) ct (.BoolOp op vs w1)=(if vs.length<2 then .never else lN op (vs.map (aj n ct))):=rfl
theorem pM:aj (n+1) ct (.IfExp c a b w1)=(.ite (lr n ct c) (aj n ct a) (aj n ct b)):=rfl
theorem pL:aj (n+1) ct (.List es w1)=(.lst (eo n ct es)):=rfl
theorem pH:aj (n+1) ct (.Tuple es w1 w2)=(.tup (eo n ct es)):=rfl
theorem pN:aj (n+1) ct (.Dict ks vs w1)=(match ks,vs with
   |[],[]=>.dnew|[some (.Constant c _ _)],[v]=>match c with
    | .int i=>.dlit (.inl i) (aj n ct v)| .str z=>.dlit (.inr z) (aj n ct v)|_=>.never
   |_,_=>.never):=rfl
theorem pI:aj (n+1) ct (.Subscript a i w1)=(match i with
   | .Slice d c b _=>match b with
    |none=>.sl (aj n ct a) (EH n ct d) (EH n ct c)|some b=>match d,c,b with
     |none,none,.UnaryOp .USub (.Constant (.int 1) _ _) _=>.rev (aj n ct a)|_,_,_=>.never
   |i=>.ix (aj n ct a) (aj n ct i)):=rfl
theorem pQ:aj (n+1) ct (.Call f es ks cp)=(match ks with
   |[]=>match f with
    | .Name x _=>jL n ct x es| .Attribute o m a=>if a.endLine==cp.line then mK n ct o m es else .never|_=>.never
   |_=>.never):=rfl
theorem pK:aj (n+1) ct (.ListComp elt gs scope w1)=(match gs with
   |[⟨.Name t _,iter,ifs,0⟩]=>if xE ct t scope then(match slots ct.N (frees scope)with
    |some a=>.lc (aj n (blk ct t scope) elt) (yO n ct false iter) (match ifs with
     |[]=>.no|[c]=>.yes (lr n (blk ct t scope) c)|_=>.yes (.val .never)) a
    |none=>.never)else .never
   |gs=>(match uh gs with
    |some (t,t2,iter,ifs)=>if ii ct t t2 scope then(match slots ct.N (frees scope)with
     |some a=>.lc2 (aj n (blk2 ct t t2 scope) elt) (yO n ct true iter) (match ifs with
      |[]=>.no|[c]=>.yes (lr n (blk2 ct t t2 scope) c)|_=>.yes (.val .never)) a
     |none=>.never)else .never
    |none=>.never)):=rfl
theorem z2a:eo 0 w0 w1=.cons .never .nil:=rfl
theorem z2b:eo (n+1) ct es=(xA (es.map λe=>if isStar e then .never else aj n ct e)):=rfl
theorem z2e:EH 0 w0 w1=.yes .never:=rfl
theorem z2f:EH (n+1) ct (none)=(.no):=rfl
theorem z2g:EH (n+1) ct (some e)=(.yes (aj n ct e)):=rfl
theorem IV:lr 0 w0 w1=.val .never:=rfl
theorem IP:lr (n+1) ct (.UnaryOp op a p)=(match op with
   | .Not=>.not (lr n ct a)|op=>.val (aj n ct (.UnaryOp op a p))):=rfl
theorem IU:lr (n+1) ct (.BoolOp op vs w1)=(lL op (vs.map (lr n ct))):=rfl
theorem IQ:lr (n+1) ct (.IfExp w1 w2 w3 w4)=(.val .never):=rfl
theorem z1q:jL 0 w0 w1 w2=.never:=rfl
theorem z1r:jL (n+1) ct x es=(if vK x then .never else if ct.S.lookup x==some .globalImplicit then(match ct.F.lookup x with
  |some f=>match es with
   |[]=>.never|es=>.call f (eo n ct es)
  |none=>if ct.B.contains x then(if x==("isinstance":Str)then(match es with
    |[a,.Name t _]=>match yH t with
     |some b=>if isStar a then .never else if own ct t then .bf (.isin b) (.cons (aj n ct a) .nil)else .never|none=>.never
    |_=>.never)else match es with
     |[.Call (.Attribute o m ap) [] [] cp]=>if x==("sum":Str)&&m==("values":Str)&&plainB o&&ap.endLine==cp.line then .bf .sumv (.cons (aj n ct o) .nil)else if x==("list":Str)&&m==("values":Str)&&plainB o&&ap.endLine==cp.line then .bf .lvals (.cons (aj n ct o) .nil)else(match jf x es.length with
      |some f=>.bf f (eo n ct es)|none=>.never)
     |[.ListComp elt gs scope _]=>(match uo x ct elt gs scope with
      |some d=>.bf .sorted (.cons (.lcs (aj n ct d)) .nil)|none=>match jf x es.length with
       |some f=>.bf f (eo n ct es)|none=>.never)
     |es=>match jf x es.length with
      |some f=>.bf f (eo n ct es)|none=>.never)else .never)else .never):=rfl
theorem z2c:mK 0 w0 w1 w2 w3=.never:=rfl
theorem z2d:mK (n+1) ct o m es=(if plainB o then(match es with
  |[a]=>if isStar a then .never else if m==("join":Str)then .mth .join (aj n ct o) (.cons (aj n ct a) .nil)else if m==("count":Str)then .mth .count (aj n ct o) (.cons (aj n ct a) .nil)else .never|_=>.never)else .never):=rfl
theorem z2w:yO 0 w0 w1 w2=.never:=rfl
theorem z2x:yO (n+1) ct tp e=(if cK e then .never else match oo e with
  |some (x,es)=>if x==("range":Str)then(if own ct x then .rng (eo n ct es)else .never)else if x==("zip":Str)then .never else if x==("enumerate":Str)then(match es with
    |[a]=>if isStar a|| !tp|| !own ct x then .never else .enum (aj n ct a)
    |_=>.never)else .seq (aj n ct e)
  |none=>.seq (aj n ct e)):=rfl
theorem wE:o9 0 w0 w1=.never:=rfl
theorem v3:o9 (n+1) ct (.Return v w1)=(match v with
   |some e=>.ret (mE n ct e) (aj n ct e)|none=>.retN):=rfl
theorem wD:o9 (n+1) ct (.Assign ts e w1)=(match ts with
   |[.Name x _]=>match loc ct x with
    |some i=>.asg i (ct.M.contains i) (KN ct x e++kA n ct e) (aj n ct e)|none=>.never
   |[.Subscript (.Name x _) k _]=>match loc ct x with
    |some i=>if eT k||isComp e then .never else .seti i (kA n ct e) (aj n ct k) (aj n ct e)
    |none=>.never
   |_=>.never):=rfl
theorem v6:o9 (n+1) ct (.If c a b w1)=(.ife (lr n ct c) (d6 n ct a) (d6 n ct b)):=rfl
theorem v7:o9 (n+1) ct (.For tg it body els w1)=(match els with
   |[]=>match yN ct tg with
    |some (is,one)=>.forr is one (KO n ct it) (yO n ct (!one) it) (d6 n ct body)|none=>.never
   |_=>.never):=rfl
theorem vz:o9 (n+1) ct (.While c body els w1)=(match els with
   |[]=>.whil (lr n ct c) (d6 n ct body)|_=>.never):=rfl
theorem v5:o9 (n+1) ct (.Pass w1)=(.pass):=rfl
theorem wB:o9 (n+1) ct (.Break w1)=(.brk):=rfl
theorem wA:o9 (n+1) ct (.Continue w1)=(.cont):=rfl
theorem v9:o9 (n+1) ct (.Expr e w1)=(match e with
   | .Call (.Attribute (.Name x _) m ap) es [] cp=>if ap.endLine==cp.line then(match loc ct x with
    |some i=>(match es with
     |[a]=>if isStar a then .never else if m==("append":Str)then .app i (kA n ct a) (aj n ct a)else .never|[a,b]=>if isStar a||isStar b then .never else if m==("insert":Str)then .ins i (aj n ct a) (aj n ct b)else .never
     |_=>.never)
    |none=>.never)else .never
   |_=>.never):=rfl
theorem v4:o9 (n+1) ct (.Raise e c w1)=(match zC e c with
   |some x=>if ct.S.lookup x==some .globalImplicit&& !vK x then .rais x else .never|none=>.never):=rfl
theorem wC:o9 (n+1) ct (.AugAssign t op e w1)=(match t with
   | .Name x _=>match loc ct x with
    |some i=>.aug i op (aj n ct e)|none=>.never
   |_=>.never):=rfl
theorem z2h:d6 0 w0 w1=.cons .never .nil:=rfl
theorem z2j:d6 (n+1) ct ([])=(.nil):=rfl
theorem z2i:d6 (n+1) ct (s::ss)=(.cons (o9 n ct s) (d6 n ct ss)):=rfl
end
end IR
namespace L2
open PySem PySem.Spec PyProof.Rows
section
variable{X:Cx}
set_option tactic.hygienic false
theorem vJ:eM X (binaryOp .Add) (λx y H Q=>∃(l b:Addr)(j i:List V),x=.ref l/\y=.ref b/\bJ X.K H l j/\bJ X.K H b i/\j.length+i.length<=sizeLine/\∀p,H p=none->Q (.ref p) (upd H p (.lst (j++i)))):=by
 intro C s Z H x y v u Q I R T h;obtain⟨l,b,j,i,rfl,rfl,Y,U,hz,q⟩:=h;cases R;cases T;obtain⟨c,r,M,_⟩:=I.list Y;obtain⟨a,L,z,_⟩:=I.list U;have hl:=r.length;have O:=L.length;obtain⟨⟨cls,W,data,S⟩,J,A,n,E⟩:=id M.isList;obtain⟨⟨D,m,o,w⟩,f,d,N,g⟩:=id z.isList;subst A E d g;have e:c.toArray++a.toArray=(c++a).toArray:=by simp
 refine concat_meets ⟨_,J,rfl⟩ ⟨_,f,rfl⟩ noFill_list_add seq_list_add PySem.F.slot_list_add PySem.F.entry_list_add (PySem.F.args_list_add_2 _ _) (list_addW l b c.toArray a.toArray n N W m S w (by rw[K1,K1];omega)) ⟨J,f,?_⟩;rw[e];exact⟨.ref _,_,I.lnew (r.append L) (by rw[K7];omega),rfl,q _ I.fresh⟩
end
end L2
namespace IR
open PySem PySem.Spec PyProof.Rows L2
abbrev WE(X:Cx)(e:Expr)(b:L2.St)(H:Hp)(Q:VK):Prop:=∀(a:List (Addr×Obj))(s:Shared),Inv X a b H s->wpAny (model X.prog X.w) X.A (eval e X.env) (EP X a b Q) X.xe s
abbrev WT(X:Cx)(e:Expr)(b:L2.St)(H:Hp)(Q:Bool->Hp->Prop):Prop:=∀(a:List (Addr×Obj))(s:Shared),Inv X a b H s->wpAny (model X.prog X.w) X.A (isTrue e X.env (eval e X.env)) (TP X a b Q) X.xe s
abbrev WA(X:Cx)(c:List Expr)(b:L2.St)(H:Hp)(Q:List V->Hp->Prop):Prop:=∀(pos:Pos)(a:List (Addr×Obj))(s:Shared),Inv X a b H s->wpAny (model X.prog X.w) X.A (spliced (backTo pos (starEach c X.env))) (AP X a b Q) X.xe s
theorem aT:PE X e (λσ H Q=>WE X e σ H Q):=λpins s σ H Q I h=>h pins s I
theorem kj:PT X e (λσ H Q=>WT X e σ H Q):=λpins s σ H Q I h=>h pins s I
theorem tL:PA X e (λσ H Q=>WA X e σ H Q):=λpos pins s σ H Q I h=>h pos pins s I
theorem we{t:TE}(h:PE X e t)(q:t a H Q):WE X e a H Q:=λpins s I=>h pins s a H Q I q
theorem wt{t:TT}(h:PT X e t)(q:t a H Q):WT X e a H Q:=λpins s I=>h pins s a H Q I q
theorem wa{t:TA}(h:PA X e t)(q:t a H Q):WA X e a H Q:=λpos pins s I=>h pos pins s a H Q I q
def kB(K:W.Frag)(m:List PV->Option PV):Sp:=λvs H Q _=>∃a r,aJ K H false a H vs/\m a=some r/\∀u b,aE H b ->Rp K H true r b u->Q u b
structure bS(cd:Nat->List PV->Option PV)(X:Cx)(ct:Ct):Prop where
 N:X.N=ct.N
 nd:ct.N.Nodup
 S:X.env.scope.names=ct.S
 kind:X.env.scope.kind=.function
 calm:X.calm=true
 glob:∀x v,ct.G.lookup x=some v->∃u w,X.mg x=some u/\RelV w u/\∀Hi n H,Rp X.K Hi n v H w
 bl:∀x,ct.B.contains x=true->X.mg x=none
 fns:∀x f,ct.F.lookup x=some f->∃k a fd ps,aq X.prog X.w X.K X.mg X.base dI k a fd ps (kB X.K (cd f))/\cM k X.A/\X.mg x=some (.ref a)/\W.keepIn X.K (.ref a)=true/\Binds X.K fd ps []
 xe:PassesOwn (model X.prog X.w) X.A X.env X.xe
 un:X.A.units+64<cLine
section
variable{X:Cx}{Hi:Hp}{τ:En}
variable(X Hi τ)in
def aK(e:Expr)(r:RV):Prop:=∀(O:List Addr)(b:L2.St)(H:Hp)(Q:VK),aY X.K Hi O τ b H->(∀u a,aE H a ->ae X.K Hi O H a r u->Q u a)->WE X e b H Q
variable(X Hi τ)in
def fE(e:Expr)(b:Bool):Prop:=∀(O:List Addr)(a:L2.St)(H:Hp)(Q:Bool->Hp->Prop),aY X.K Hi O τ a H->(∀c,aE H c ->Q b c)->WT X e a H Q
variable(X Hi)in
def dR(O:List Addr)(H b :Hp):List RV->List V->Prop
 |[],us=>us=[]|r::rs,us=>∃u a,us=u::a/\ae X.K Hi O H b r u/\dR O H b rs a
variable(X Hi τ)in
def o8(d:List Expr)(c:List RV):Prop:=∀(O:List Addr)(b:L2.St)(H:Hp)(Q:List V->Hp->Prop),aY X.K Hi O τ b H->(∀us a,aE H a ->dR X Hi O H a c us->Q us a)->WA X d b H Q
theorem dO:sizeLine=16777216:=Lp
set_option tactic.hygienic false
theorem dR.back{O:List Addr}{f H d :Hp}(s:aE f H):∀{c:List RV}{us:List V},dR X Hi O H d c us->dR X Hi O f d c us
 |[],_,h=>h|r::c,_,h=>by obtain⟨u,g,e,a,b⟩:=h;exact⟨u,g,e,a.back s,dR.back s b⟩
theorem dR.vals{O:List Addr}{e:L2.St}{H c :Hp}(R:aY X.K Hi O τ e H)(s:aE H c):∀{d:List RV}{us:List V},dR X Hi O H c d us->aJ X.K Hi false (d.map RV.val) c us
 |[],_,h=>by cases h;exact .nil|r::d,_,h=>by obtain⟨u,f,rfl,a,b⟩:=h;exact .cons (a.val R s) (dR.vals R s b)
theorem dR.keeps{O:List Addr}{j:L2.St}{H d :Hp}(R:aY X.K Hi O τ j H)(s:aE H d):∀{c:List RV}{us:List V}{f:List PV}{n:Bool},dR X Hi O H d c us->IR.keeps c=some (f,n)->aJ X.K Hi n f (aS d O) us
 |[],_,_,_,h,e=>by cases h;cases e;exact .nil|r::c,_,f,n,h,e=>by
  obtain⟨u,o,rfl,a,b⟩:=h;unfold IR.keeps at e;cases i:r.keep with
  |none=>rw[i]at e;cases e|some p =>
   obtain⟨v,m⟩:=p;rw[i]at e;cases g:IR.keeps c with
   |none=>rw[g]at e;cases e|some p =>
    obtain⟨l,q⟩:=p;rw[g]at e;cases e;refine .cons ((a.keep R s i).low λz=> ?_) ((dR.keeps R s b g).low λz=> ?_)
    ·rw[Kt]at z;exact z.1
    ·rw[Kt]at z;exact z.2
theorem gU{v:PV}(h:∀G,Rp X.K Hi true v G u):ae X.K Hi O H a (sc v) u:=h _
theorem Ax{k:Nat}(h:aQ a (nJ c) τ=some r):aK X Hi τ (.Constant c k pos) r:=by
 intro O d H Q R q;cases c with
 |int i =>cases h;exact we bA (q _ _ (aE.refl _) (gU λ_=>Rp.int.mpr rfl))
 |bool b =>cases h;exact we vE (q _ _ (aE.refl _) (gU λ_=>Rp.bl.mpr rfl))
 |str b =>cases h;exact we bV (q _ _ (aE.refl _) (gU λ_=>Rp.str.mpr rfl))
 |none =>cases h;exact we zU (q _ _ (aE.refl _) (gU λ_=>Rp.non.mpr rfl))
 |_=>cases h
theorem kP(e:a.names=S)(h:Ew S x=true):IJ a x:=by
 unfold Ew at h;unfold IJ;rw[e]
 simpa [MG,or_assoc]using h
theorem bt(h:vK x=false):(x==("__debug__":Str))=false/\(x==("__classdict__":Str))=false/\x≠"__name__":=by unfold vK at h;simp only[Bool.or_eq_false_iff]at h;exact⟨h.1.1,h.1.2,λe=>by rw[e]at h;simp at h⟩
set_option tactic.hygienic true in
theorem oM{ct:Ct}(C:bS E X ct)(h:aQ E (dC ct x) τ=some r):aK X Hi τ (.Name x pos) r:=by
 intro O U H Q R q;unfold dC at h
 split at h;simp[dM]at h
 rename_i T;obtain⟨I,J,W⟩:=bt (MD.mpr T)
 split at h
 ·rename_i L
  cases s:slot ct.N x with
  |none=>rw[s]at h;simp[dM]at h|some i =>
   rw[s]at h;have h:j9 τ i=some r:=by simpa [cQ,cV,cS,cY,cz,dA,dN,dJ,dL,cv,cR,dB,cP,cZ,cW,cw,cy,cu,cI,cX,cq,ck,ci,dM]using h
   refine we (jN (by rw[C.N];exact ff s) (kP C.S L) I J) ?_;unfold j9 at h;cases j:τ[i]? with
   |none=>rw[j]at h;cases h|some t =>
    rw[j]at h;cases t with
    |un=>cases h|frz v n =>cases h;obtain⟨u,d,a⟩:=R.frz i v n j;exact⟨u,d,q u H (aE.refl _) a⟩
    |own A n =>
     cases h;obtain⟨l,us,d,a,f,p⟩:=R.owns i A n j;refine⟨_,d,q _ H (aE.refl _) ?_⟩;refine Rp.lst.mpr ⟨l,us,rfl,(λz=>absurd z K0),bJ.of f,p.weak.mono λb o e=> ?_⟩;unfold aS at e
     split at e;cases e
     ·rename_i D
      unfold del;have m:b≠l:=λz=>D (z▸a);rw[LC m];exact e
    |owd b A n =>
     cases h;obtain⟨l,us,o,d,a,f,K,p⟩:=R.obs i _ b A n j rfl;refine⟨_,d,q _ H (aE.refl _) ?_⟩;refine Rp.at (λz=>absurd z K0) f K (p.weak.mono λc o e=> ?_);unfold aS at e
     split at e;cases e
     ·rename_i D
      unfold del;have m:c≠l:=λz=>D (z▸a);rw[LC m];exact e
 ·split at h
  ·rename_i M
   cases y:ct.G.lookup x with
   |none=>rw[y]at h;simp[dM]at h|some v =>
    rw[y]at h;have h:some (sc v)=some r:=by simpa [cQ,cV,cS,cY,cz,dA,dN,dJ,dL,cv,cR,dB,cP,cZ,cW,cw,cy,cu,cI,cX,cq,ck,ci,dM]using h
    cases h;obtain⟨u,w,d,a,f⟩:=C.glob x v y;have g:Gl X x:=by
     show X.env.scope.names.lookup x=_;rw[C.S]
     simpa using M
    exact we (iT g d a I) (q _ _ (aE.refl _) (gU λ_=>f _ _ _))
  ·simp[dM]at h
theorem jd{rr:R2}(h:eM X (binaryOp f) rr)(g:aK X Hi τ a x)(i:aK X Hi τ b y)
  (k:∀(O:List Addr)(d:L2.St)(H c:Hp)(u v:V)(Q:VK),aY X.K Hi O τ d H->aE H c->ae X.K Hi O H c x u->ae X.K Hi O H c y v->(∀w e,aE c e->ae X.K Hi O H e r w->Q w e)->rr u v c Q) :
  aK X Hi τ (.BinOp a f b pos) r:=by
 intro O d H Q R q;refine we (bN h aT aT) ?_;refine g O d H _ R λu H1 s1 r1=>i O d H1 _ (R.ext s1) λv c s2 r2=> ?_;exact k O d H c u v Q R (s1.trans s2) (r1.ext s2) (r2.back s1) λw e s3 r3=>q w e (s1.trans (s2.trans s3)) r3
theorem ae.int{i:Int}(R:aY X.K Hi O τ b H)(s:aE H a)(h:ae X.K Hi O H a x u)(e:x.val=.int i):u=.int i:=by have z:=h.val R s;rw[e]at z;exact Rp.int.mp z
theorem ae.str{i:Str}(R:aY X.K Hi O τ b H)(s:aE H a)(h:ae X.K Hi O H a x u)(e:x.val=.str i):u=.str i:=by have z:=h.val R s;rw[e]at z;exact Rp.str.mp z
theorem ae.bl{i:Bool}(R:aY X.K Hi O τ b H)(s:aE H a)(h:ae X.K Hi O H a x u)(e:x.val=.bl i):u=.bl i:=by have z:=h.val R s;rw[e]at z;exact Rp.bl.mp z
theorem ae.tup{O:List Addr}{c:L2.St}{H a :Hp}{x:RV}{u:V}{b:List PV}(R:aY X.K Hi O τ c H)(s:aE H a)(h:ae X.K Hi O H a x u)(e:x.val=.tup b):∃p us,u=.ref p/\cU X.K a p us/\aJ X.K Hi false b a us:=by have z:=h.val R s;rw[e]at z;exact Rp.tup.mp z
theorem ae.lst{O:List Addr}{c:L2.St}{H a :Hp}{x:RV}{u:V}{b:List PV}(R:aY X.K Hi O τ c H)(s:aE H a)(h:ae X.K Hi O H a x u)(e:x.val=.lst b):∃p us,u=.ref p/\bJ X.K a p us/\aJ X.K Hi false b a us:=by have z:=h.val R s;rw[e]at z;obtain⟨p,us,g,_,d,f⟩:=Rp.lst.mp z;exact⟨p,us,g,d,f.mono bR⟩
theorem ae.itsL{n:Bool}(R:aY X.K Hi O τ d H)(s:aE H b)(h:ae X.K Hi O H b r u)(e:r.its=some (c,n))(f:r.val=.lst g) :
  ∃p us,u=.ref p/\bJ X.K b p us/\aJ X.K Hi n c (aS b O) us:=by
 obtain⟨p,us,j,a,i⟩:=h.its R s e
 rcases a with⟨a,_⟩|⟨_,l,a⟩
 ·exact⟨p,us,j,a,i⟩
 ·rw[f]at a
  cases a
theorem dU{n:Bool}{us:List V}(s:aE H a)(d:a p=none)(r:aJ X.K Hi n c (aS a O) us):ae X.K Hi O H (L2.upd a p (.lst us)) (.own c n) (.ref p):=by refine⟨p,us,rfl,s.free d,aD,r.mono (aL λb o e=> ?_)⟩;have b:=aG e d;unfold del;rw[LC b,aA b];exact e
theorem vY{o:HO}(R:aY X.K Hi O τ c H)(s:aE H a)(b:a p=none):aS (L2.upd a p o) O p=some o:=by
 unfold aS;rw[LC λz=> ?_]
 ·exact aD
 ·obtain⟨us,e,_⟩:=(R.own p z).2
  rw[s _ _ e]at b;cases b
theorem DY{us:List V}(R:aY X.K Hi O τ b H)(s:aE H a)(h:cU X.K a p us):cU X.K (aS a O) p us:=(R.ext s).tups.at h
theorem GR{n m:Bool}{us:List V}(a:aJ X.K Hi n d H us)(b:aJ X.K Hi m e H c):aJ X.K Hi (n&&m) (d++e) H (us++c):=by
 refine aJ.app (a.low λz=> ?_) (b.low λz=> ?_)
 ·rw[Kt]at z;exact z.1
 ·rw[Kt]at z;exact z.2
theorem uv{i:Int}:ae X.K Hi O H a (sc (.int i)) (.int i):=gU λ_=>Rp.int.mpr rfl
theorem EN{i:Bool}:ae X.K Hi O H a (sc (.bl i)) (.bl i):=gU λ_=>Rp.bl.mpr rfl
theorem B8{i:Str}:ae X.K Hi O H a (sc (.str i)) (.str i):=gU λ_=>Rp.str.mpr rfl
set_option tactic.hygienic true
theorem vL{n:Bool}(h:fB a n=some r):a.length<=LN/\r=.own a n:=by
 unfold fB at h
 split at h
 ·rename_i e;cases h;exact⟨e,rfl⟩
 ·cases h
theorem Cy{n:Bool}(h:w5 a n=some r):a.length<=LN/\r=.frz (.tup a) n:=by
 unfold w5 at h
 split at h
 ·rename_i e;cases h;exact⟨e,rfl⟩
 ·cases h
theorem binI{i:Int}(f:eM X (binaryOp d) (rI C g))(m:aK X Hi τ a x)(l:aK X Hi τ b y)(e:x.val=.int i)(h:y.val=.int j)(c:C i j)
  (n:∀G,Rp X.K Hi true w G (g i j)):aK X Hi τ (.BinOp a d b pos) (sc w) :=
 jd f m l λO σ H H2 u v Q R s ru rv q=>⟨i,j,ru.int R s e,rv.int R s h,c,q _ _ (aE.refl _) (gU n)⟩
theorem Ej{i:Int}(e:eM X (binaryOp c) (zD g))(l:aK X Hi τ a x)(h:aK X Hi τ b y)(d:x.val=.int i)(f:y.val=.int j)
  (m:∀G,Rp X.K Hi true w G (g i j)):aK X Hi τ (.BinOp a c b pos) (sc w) :=
 jd e l h λO σ H H2 u v Q R s ru rv q=>⟨i,j,ru.int R s d,rv.int R s f,q _ _ (aE.refl _) (gU m)⟩
set_option tactic.hygienic false
theorem rG(a:Array Nat):∀(m:Nat)(b:Array Nat),((List.replicate m a).foldl (·++·) b).toList=b.toList++(List.replicate m a.toList).flatten
 |0,b=>by simp|m+1,b=>by rw[MA,List.foldl_cons,rG a m,MA,Mb];simp
set_option tactic.hygienic true in
theorem GO{n:Nat}:Txt.mul z (n:Int)=(⟨(List.replicate n z.cps.toList).flatten.toArray⟩:Str):=by
 refine UM.eO ?_;unfold Txt.mul
 split
 ·rename_i c
  have:n=0:=by omega
  subst this;rfl
 ·split
  ·rename_i a c
   rcases(MG ..).mp c with c|c
   ·have:n=1:=by
     omega
    subst this;simp
   ·have e:z.cps.toList=[]:=List.length_eq_zero_iff.mp (by have:=Lx.mp c;simpa [Str.length]using this)
    rw[e];simp
  ·rw[L4]
   have:=rG z.cps n #[]
   simpa using this
theorem aJ.rep{n:Bool}{a:List PV}{H:Hp}{us:List V}(h:aJ X.K Hi n a H us):∀k:Nat,aJ X.K Hi n (List.replicate k a).flatten H (List.replicate k us).flatten
 |0=>by simp;exact .nil|k+1=>by rw[MA,Mb,MA,Mb];exact h.app (aJ.rep h k)
set_option tactic.hygienic true
theorem A9{A:Operator}(f:aK X Hi τ a x)(g:aK X Hi τ b y)(h:cC A x y=some r):aK X Hi τ (.BinOp a A b pos) r:=by
 cases A with
 |Add =>
  have h:uV x y=some r:=h;unfold uV at h
  split at h
  case h_1 i j e d=>cases h;exact Ej gr f g e d λ_=>Rp.int.mpr rfl
  case h_2 i j e d =>
   split at h
   ·rename_i o
    cases h;exact jd tO f g λO w H H2 u v Q R s ru rv q=>⟨i,j,ru.str R s e,rv.str R s d,by rw[dO];exact o,q _ _ (aE.refl _) B8⟩
   ·cases h
  case h_3 e d =>
   split at h
   ·rename_i T n ys m M U
    obtain⟨o,rfl⟩:=vL h;refine jd vJ f g λO w H H2 u v Q R s ru rv q=> ?_;obtain⟨p,us,rfl,D,l⟩:=ru.itsL R s M e;obtain⟨O,E,rfl,S,K⟩:=rv.itsL R s U d;have C:=l.len;have L:=K.len;rw[K7]at o;exact⟨p,O,us,E,rfl,rfl,D,S,by rw[dO,<-C,<-L];exact o,λp3 hp=>q _ _ (aM hp _) (dU s hp (GR l K))⟩
   ·cases h
  case h_4=>cases h
 |Sub =>
  have h:uT x y=some r:=h;unfold uT at h
  split at h
  case h_1 i j e d=>cases h;exact Ej GA f g e d λ_=>Rp.int.mpr rfl
  case h_2=>cases h
 |Mult =>
  have h:oq x y=some r:=h;unfold oq at h
  split at h
  case h_1 i j e d =>
   split at h
   ·rename_i c
    cases h;exact binI GC f g e d c λ_=>Rp.int.mpr rfl
   ·split at h
    ·rename_i c
     cases h;exact binI Cp f g e d c λ_=>Rp.int.mpr rfl
    ·cases h
  case h_2 k e d =>
   split at h
   ·rename_i T n
    split at h
    ·rename_i c
     cases h;refine jd ze f g λO w H H2 u v Q R s ru rv q=> ?_;obtain⟨p,us,rfl,Z,D,l⟩:=ru;have C:=l.len;refine⟨p,k,us,rfl,rv.int R s d,D,by omega,by omega,by rw[dO,<-C];exact c.2.2,λp3 hp=>q _ _ (aM hp _) (dU s hp ((l.mono (aL bR)).rep _))⟩
    ·cases h
   ·cases h
  case h_3 z k e d =>
   split at h
   ·rename_i c
    cases h;refine jd (rr:=λx y H Q=>∃(z:Str)(n:Nat),x=.str z/\y=.int n/\z.length<=16/\n<=1000/\Q (.str (Txt.mul z (n:Int))) H) ?_ f g λO w H H2 u v Q R s ru rv q=> ?_
    ·intro J s w H x y u v Q I N W h
     obtain⟨z,n,rfl,rfl,o,hn,q⟩:=h;obtain⟨t,rfl⟩:=N;obtain⟨Y,rfl⟩:=W;exact SB.mul (mulOk_of 16 1048576 (by omega) (by omega) (by omega) (by decide) (by decide)) λt2 k=>⟨.str _,H,I.tok _,⟨_,rfl⟩,q⟩
    ·refine⟨z,k.toNat,ru.str R s e,by rw[rv.int R s d];congr 1;omega,c.2.2,by omega,?_⟩
     rw[GO];exact q _ _ (aE.refl _) B8
   ·cases h
  case h_4=>cases h
 |FloorDiv =>
  have h:fY x y=some r:=h;unfold fY at h
  split at h
  case h_1 i j e d =>
   split at h
   ·rename_i c
    cases h;exact binI zh f g e d ⟨c.1,MZ ((Nat.log2_lt (n:=j.natAbs) (k:=200) (by omega)).mpr (by omega)) (by decide)⟩ λ_=>Rp.int.mpr rfl
   ·cases h
  case h_2=>cases h
 |Mod =>
  have h:uU x y=some r:=h;unfold uU at h
  split at h
  case h_1 i j e d =>
   split at h
   ·rename_i c
    cases h;exact binI dG f g e d c λ_=>Rp.int.mpr rfl
   ·cases h
  case h_2=>cases h
 |_=>exact absurd (show(none:Option RV)=some r from h) (by intro z;cases z)
mutual
theorem bL{pins:List (Addr×Obj)}{σ:L2.St}{H:Hp}{s:Shared}(I:Inv X pins σ H s):∀{a:PV}{n:Nat}{u:V}{u' :Value},pA n a=true->Rp X.K Hi false a H u->RelV u u' ->∃as,Reads s.heap u' (rV a) as
 | .non,_,_,_,_,r,e=>by cases Rp.non.mp r;cases e;exact⟨_,.none⟩
 | .bl b,_,_,_,_,r,e=>by cases Rp.bl.mp r;cases e;exact⟨_,.bool b⟩
 | .int i,_,_,_,_,r,e=>by cases Rp.int.mp r;obtain⟨t,rfl⟩:=e;exact⟨_,.int i t⟩
 | .str z,_,_,_,_,r,e=>by cases Rp.str.mp r;obtain⟨t,rfl⟩:=e;exact⟨_,.str z t⟩
 | .lst xs,n,_,_,f,r,e=>by
  obtain⟨p,us,rfl,_,l,r⟩:=Rp.lst.mp r;cases e;cases n with
  | zero=>cases f
  | succ n =>
   obtain⟨its,rv,pl,_⟩:=I.list l;obtain⟨as,z⟩:=hU I (xs:=xs) (n:=n) f (r.mono bR) rv;obtain⟨o,ho,hc,m,hd⟩:=pl.isList;exact⟨_,.list ho hc hd (by simpa using z)⟩
 | .tup xs,n,_,_,f,r,e=>by
  obtain⟨p,us,rfl,l,r⟩:=Rp.tup.mp r;cases e;cases n with
  | zero=>cases f
  | succ n =>
   obtain⟨its,rv,pl,_⟩:=I.tuple l;obtain⟨as,z⟩:=hU I (xs:=xs) (n:=n) f r rv;obtain⟨o,ho,hc,m,hd⟩:=pl;exact⟨_,.tuple ho hc hd (by simpa using z)⟩
 | .dK _ _,n,_,_,f,_,_=>by cases n<;>cases f
 | .dT _ _,n,_,_,f,_,_=>by cases n<;>cases f
theorem hU{pins:List (Addr×Obj)}{σ:L2.St}{H:Hp}{s:Shared}(I:Inv X pins σ H s):∀{xs:List PV}{n:Nat}{us:List V}{us' :List Value},xs.all (pA n)=true->aJ X.K Hi false xs H us->aN us us' ->∃as,ReadsAll s.heap us' (fD xs) as
 | [],_,_,_,_,r,e=>by
  obtain rfl:=r;cases e;exact⟨_,.nil⟩
 | x::xs,n,_,_,f,r,e=>by
  obtain⟨u,us,rfl,r1,r2⟩:=r;cases e with
  | cons e1 e2 =>
   rw[Nf,Kt]at f;obtain⟨as,z⟩:=bL I f.1 r1 e1;obtain⟨bs,y⟩:=hU I f.2 r2 e2;exact⟨_,.cons z y⟩
end
mutual
theorem eU:∀{a:PV}{n:Nat},pA n a=true->(rV a).canLay0=true/\(rV a).depth<=n
 | .non,n,_=>⟨rfl,LY _⟩
 | .bl _,n,_=>⟨rfl,LY _⟩
 | .int _,n,_=>⟨rfl,LY _⟩
 | .str z,n,h=>⟨by cases n<;>exact h,LY _⟩
 | .lst xs,0,h=>by cases h
 | .lst xs,n+1,h=>⟨(df (xs:=xs) (n:=n) h).1,Nat.succ_le_succ (df (xs:=xs) (n:=n) h).2⟩
 | .tup xs,0,h=>by cases h
 | .tup xs,n+1,h=>⟨(df (xs:=xs) (n:=n) h).1,Nat.succ_le_succ (df (xs:=xs) (n:=n) h).2⟩
 | .dK _ _,n,h=>by cases n<;>cases h
 | .dT _ _,n,h=>by cases n<;>cases h
theorem df:∀{xs:List PV}{n:Nat},xs.all (pA n)=true->PyData.canLayAll0 (fD xs)=true/\PyData.depthAll (fD xs)<=n
 | [],n,_=>⟨rfl,LY _⟩
 | x::xs,n,h=>by
  rw[Nf,Kt]at h;obtain⟨a,b⟩:=eU h.1;obtain⟨c,d⟩:=df h.2;refine⟨?_,?_⟩
  ·show((rV x).canLay0&&PyData.canLayAll0 (fD xs))=true
   rw[a,c];rfl
  ·show max (rV x).depth (PyData.depthAll (fD xs))<=n
   omega
end
mutual
theorem kM:∀(a b:PV),PyData.eqv (rV a) (rV b)=uC a b
 | .lst xs,b=>by
  cases b with
  | lst ys=>show PyData.eqvAll (fD xs) (fD ys)=uB xs ys;exact lO xs ys
  | _=>rfl
 | .tup xs,b=>by
  cases b with
  | tup ys=>show PyData.eqvAll (fD xs) (fD ys)=uB xs ys;exact lO xs ys
  | _=>rfl
 | .non,b=>by cases b<;>rfl
 | .bl x,b=>by cases b<;>first|rfl|exact beq_eq_decide _ _|(unfold uC;simp[rV,PyData.eqv,Ak,My])
 | .int x,b=>by cases b<;>first|rfl|exact beq_eq_decide _ _|(unfold uC;simp[rV,PyData.eqv,Ak,My])
 | .str x,b=>by cases b<;>first|rfl|exact beq_eq_decide _ _|(unfold uC;simp[rV,PyData.eqv,Ak,My])
 | .dK k v,b=>by cases b<;>rfl
 | .dT k v,b=>by cases b<;>rfl
theorem lO:∀(xs ys:List PV),PyData.eqvAll (fD xs) (fD ys)=uB xs ys
 | [],[]=>rfl
 | [],_::_=>rfl
 | _::_,[]=>rfl
 | x::xs,y::ys=>by
  show(PyData.eqv (rV x) (rV y)&&PyData.eqvAll (fD xs) (fD ys))=(uC x y&&uB xs ys);rw[kM x y,lO xs ys]
end
set_option tactic.hygienic false
theorem fW(x:PV):∀a:List PV,((fD a).any λy=>PyData.eqv y (rV x))=a.any λy=>uC y x
 |[]=>rfl|y::a=>by show(PyData.eqv (rV y) (rV x)||(fD a).any λy=>PyData.eqv y (rV x))=(uC y x||a.any λy=>uC y x);rw[kM,fW x a]
variable(X Hi)in
def JN(g:Bool->Bool):R2:=λx y H Q=>∃a b,pA 12 a=true/\pA 12 b=true/\Rp X.K Hi false a H x/\Rp X.K Hi false b H y/\Q (.bl (g (uC a b))) H
theorem tN(r:X.A.units+64<cLine):eM X (compareOp .Eq) (JN X Hi id):=by intro e s p H x y u v Q I m n h;obtain⟨a,b,d,c,i,o,q⟩:=h;obtain⟨z,f⟩:=bL I d i m;obtain⟨C,g⟩:=bL I c o n;obtain⟨l,w⟩:=eU d;obtain⟨j,D⟩:=eU c;refine SeqAt.compareEq_reads f g l j (by omega) ?_;rw[kM];exact⟨.bl _,H,I,rfl,q⟩
theorem GB(r:X.A.units+64<cLine):eM X (compareOp .NotEq) (JN X Hi not):=by intro e s p H x y u v Q I m n h;obtain⟨a,b,d,c,i,o,q⟩:=h;obtain⟨z,f⟩:=bL I d i m;obtain⟨C,g⟩:=bL I c o n;obtain⟨l,w⟩:=eU d;obtain⟨j,D⟩:=eU c;refine SeqAt.compareNe_reads f g l j (by omega) ?_;rw[kM];exact⟨.bl _,H,I,rfl,q⟩
variable(X Hi)in
def JM(g:Bool->Bool):R2:=λx y H Q=>∃a b,pA 12 a=true/\b.all (pA 12)=true/\Rp X.K Hi false a H x/\(Rp X.K Hi false (.lst b) H y\/Rp X.K Hi false (.tup b) H y)/\Q (.bl (g (b.any λy=>uC y a))) H
theorem zg(z:X.A.units+64<cLine):eM X (compareOp .In) (JM X Hi id):=by
 intro g s w H x y u v Q I r m h;obtain⟨a,l,f,d,o,b,q⟩:=h;obtain⟨D,e⟩:=bL I f o r;obtain⟨j,C⟩:=eU f;obtain⟨i,E⟩:=df d
 rcases b with b|b
 ·obtain⟨p,c⟩:=bL I (a:=.lst l) (n:=13) d b m
  refine SeqAt.in_list_reads c e i j (by omega) ?_;rw[fW];exact⟨.bl _,H,I,rfl,q⟩
 ·obtain⟨p,c⟩:=bL I (a:=.tup l) (n:=13) d b m
  refine SeqAt.in_tuple_reads c e i j (by omega) ?_;rw[fW];exact⟨.bl _,H,I,rfl,q⟩
theorem Co(z:X.A.units+64<cLine):eM X (compareOp .NotIn) (JM X Hi not):=by
 intro g s w H x y u v Q I r m h;obtain⟨a,l,f,d,o,b,q⟩:=h;obtain⟨D,e⟩:=bL I f o r;obtain⟨j,C⟩:=eU f;obtain⟨i,E⟩:=df d
 rcases b with b|b
 ·obtain⟨p,c⟩:=bL I (a:=.lst l) (n:=13) d b m
  refine SeqAt.notIn_list_reads c e i j (by omega) ?_;rw[fW];exact⟨.bl _,H,I,rfl,q⟩
 ·obtain⟨p,c⟩:=bL I (a:=.tup l) (n:=13) d b m
  refine SeqAt.notIn_tuple_reads c e i j (by omega) ?_;rw[fW];exact⟨.bl _,H,I,rfl,q⟩
theorem qm{k:ah}{n:Bool}{G:Hp}{v:V}(h:gZ y=some k)(r:Rp X.K Hi n y G v):v=kV k:=by
 cases y with
 |int i=>cases h;exact Rp.int.mp r|str z=>cases h;exact Rp.str.mp r|_=>cases h
theorem Rp.dK{n:Bool}{a:List ah}{b:List PV}{G:Hp}{u:V}(h:Rp X.K Hi n (.dK a b) G u):∃p us,u=.ref p/\G p=some (.dK (a.zip us))/\a.length=us.length/\aJ X.K Hi n b (IR.del G p) us:=by obtain⟨p,us,e,_,f,c,d⟩:=h;exact⟨p,us,e,f,c,d⟩
end
section
variable{X:Cx}{Hi:Hp}{τ:En}
set_option tactic.hygienic false
theorem Aj{t:Bool}{v:V}(h:eqs a b=some t)(ha:Rp X.K Hi false a H u)(hb:Rp X.K Hi false b H' v):FZ u v=true/\decide (u=v)=t:=by
  cases a<;>cases b<;>first
    | exact absurd (show none=some t from h) (by intro z;cases z)
    | (have e:=LR (show some _=some t from h)
       subst e
       first
       | rw[Rp.int.mp ha]|rw[Rp.str.mp ha]|rw[Rp.bl.mp ha]|rw[Rp.non.mp ha]
       first
       | rw[Rp.int.mp hb]|rw[Rp.str.mp hb]|rw[Rp.bl.mp hb]|rw[Rp.non.mp hb]
       exact⟨rfl,by simp⟩)
theorem kL(c:Rp X.K Hi false a H u)(f:rL a=true):gb u=true:=by
 cases a with
 |non=>rw[Rp.non.mp c];rfl|bl b=>rw[Rp.bl.mp c];rfl|int b=>rw[Rp.int.mp c];rfl|str b=>rw[Rp.str.mp c];rfl|_=>cases f
theorem HB{v:V}(d:Rp X.K Hi false a H u)(c:Rp X.K Hi false b f v)(e:rL a=true)(g:rL b=true):xu u v=Ak a b:=by
 cases a<;>(try cases e)<;>cases b<;>(try cases g) <;>
  (first|rw[Rp.int.mp d]|rw[Rp.str.mp d]|rw[Rp.bl.mp d]|rw[Rp.non.mp d]) <;>
  (first|rw[Rp.int.mp c]|rw[Rp.str.mp c]|rw[Rp.bl.mp c]|rw[Rp.non.mp c]) <;>
  first|rfl|exact beq_eq_decide _ _|exact(beq_eq_decide _ _).symm|(simp[xu,Ak,My];done)|(unfold xu Ak;simp only[beq_eq_decide])
theorem i7:∀{c:List PV}{H:Hp}{us:List V},aJ X.K Hi false c H us->c.all rL=true->us.all gb=true
 |[],_,_,h,_=>by obtain rfl:=h;rfl|x::c,_,_,h,f=>by obtain⟨u,r,rfl,a,b⟩:=h;rw[Nf,Kt]at f ⊢;exact⟨kL a f.1,i7 b f.2⟩
theorem o0{x:PV}{g :Hp}{v:V}(e:Rp X.K Hi false x g v)(d:rL x=true):∀{c:List PV}{H:Hp}{us:List V},aJ X.K Hi false c H us->c.all rL=true->inV v us=c.any λy=>Ak y x
 |[],_,_,h,_=>by obtain rfl:=h;rfl|y::c,_,_,h,f=>by obtain⟨u,r,rfl,a,b⟩:=h;rw[Nf,Kt]at f;show(xu u v||inV v r)=_;rw[Mw,o0 e d b f.2,HB a e f.1 d]
theorem zq(c:Rp X.K Hi false a H u)(h:∀z,a≠z\/z≠PV.non):u≠.non:=by
 intro e;subst e;cases a with
 |non=>rcases h .non with z|z<;>exact z rfl
 |bl b=>cases Rp.bl.mp c|int b=>cases Rp.int.mp c|str b=>cases Rp.str.mp c|lst f=>obtain⟨p,us,z,_⟩:=Rp.lst.mp c;cases z
 |tup f=>obtain⟨p,us,z,_⟩:=Rp.tup.mp c;cases z
 |dK g d=>obtain⟨p,us,z,_⟩:=c;cases z
 |dT g d=>obtain⟨p,us,z,_⟩:=c;cases z
set_option tactic.hygienic true in
theorem fX(g:X.A.units+64<cLine){x y:RV}{t:Bool}(h:bU C x.val y.val=some t):∃I:R2,eM X (compareOp C) I /\ ∀(O:List Addr)(d:L2.St)(H b:Hp)(u v:V)(Q:VK),aY X.K Hi O τ d H->aE H b->ae X.K Hi O H b x u->ae X.K Hi O H b y v->Q (.bl t) b->I u v b Q:=by
 cases C with
 |Lt =>
  have h:Az x.val y.val=some t:=h;unfold Az at h
  split at h
  case h_1 i j m a=>cases h;exact⟨_,JU,λO d H b u v Q R s ru rv q=>⟨i,j,ru.int R s m,rv.int R s a,q⟩⟩
  case h_2=>cases h
 |LtE =>
  have h:uJ x.val y.val=some t:=h;unfold uJ at h
  split at h
  case h_1 i j m a=>cases h;exact⟨_,JV,λO d H b u v Q R s ru rv q=>⟨i,j,ru.int R s m,rv.int R s a,q⟩⟩
  case h_2=>cases h
 |Gt =>
  have h:A2 x.val y.val=some t:=h;unfold A2 at h
  split at h
  case h_1 i j m a=>cases h;exact⟨_,JW,λO d H b u v Q R s ru rv q=>⟨i,j,ru.int R s m,rv.int R s a,q⟩⟩
  case h_2=>cases h
 |GtE =>
  have h:uK x.val y.val=some t:=h;unfold uK at h
  split at h
  case h_1 i j m a=>cases h;exact⟨_,JX,λO d H b u v Q R s ru rv q=>⟨i,j,ru.int R s m,rv.int R s a,q⟩⟩
  case h_2=>cases h
 |Eq =>
  have h:Ee x.val y.val=some t:=h;unfold Ee at h
  split at h
  ·rename_i z
   cases h;refine⟨_,EX,λO d H b u v Q R s ru rv q=> ?_⟩;obtain⟨o,f⟩:=Aj z (ru.val R s) (rv.val R s);exact⟨o,by rw[f];exact q⟩
  ·split at h
   ·rename_i c
    rw[Kt]at c;cases h;exact⟨_,tN g,λO d H b u v Q R s ru rv q=>⟨_,_,c.1,c.2,ru.val R s,rv.val R s,q⟩⟩
   ·cases h
 |NotEq =>
  have h:(Ee x.val y.val).map (!·)=some t:=h;obtain⟨k,e,rfl⟩:∃k,Ee x.val y.val=some k/\t= !k:=by
   cases e:Ee x.val y.val with
   |none=>rw[e]at h;cases h|some k=>rw[e]at h;cases h;exact⟨k,rfl,rfl⟩
  unfold Ee at e
  split at e
  ·rename_i z
   cases e;refine⟨_,JT,λO d H b u v Q R s ru rv q=> ?_⟩;obtain⟨o,f⟩:=Aj z (ru.val R s) (rv.val R s);exact⟨o,by rw[f];exact q⟩
  ·split at e
   ·rename_i c
    rw[Kt]at c;cases e;exact⟨_,GB g,λO d H b u v Q R s ru rv q=>⟨_,_,c.1,c.2,ru.val R s,rv.val R s,q⟩⟩
   ·cases e
 |Is =>
  have h:A0 x.val y.val=some t:=h;unfold A0 at h
  split at h
  case h_1 m a =>cases h;refine⟨_,zf,λO d H b u v Q R s ru rv q=> ?_⟩;have o:=ru.val R s;have f:=rv.val R s;rw[m]at o;rw[a]at f;exact⟨Rp.non.mp f,by rw[Rp.non.mp o];exact q⟩
  case h_2 a D =>
   cases h;refine⟨_,zf,λO d H b u v Q R s ru rv q=> ?_⟩;have f:=rv.val R s;rw[a]at f;have n:=zq (ru.val R s) λz=>by by_cases c:z=.non;left;intro E;exact D (E.trans c);right;exact c
   exact⟨Rp.non.mp f,by rw[Ld n];exact q⟩
  case h_3=>cases h
 |IsNot =>
  have h:lU x.val y.val=some t:=h;unfold lU at h
  split at h
  case h_1 m a =>cases h;refine⟨_,vI,λO d H b u v Q R s ru rv q=> ?_⟩;have o:=ru.val R s;have f:=rv.val R s;rw[m]at o;rw[a]at f;exact⟨Rp.non.mp f,by rw[Rp.non.mp o];exact q⟩
  case h_2 a D =>
   cases h;refine⟨_,vI,λO d H b u v Q R s ru rv q=> ?_⟩;have f:=rv.val R s;rw[a]at f;have n:=zq (ru.val R s) λz=>by by_cases c:z=.non;left;intro E;exact D (E.trans c);right;exact c
   exact⟨Rp.non.mp f,by rw[Ld n];exact q⟩
  case h_3=>cases h
 |In =>
  have h:A1 x.val y.val=some t:=h;unfold A1 at h
  split at h
  case h_1 w a =>
   have e:=h;unfold vV at e
   split at e
   ·rename_i c
    cases e;refine⟨_,mW,λO d H b u v Q R s ru rv q=> ?_⟩;obtain⟨p,us,rfl,l,r⟩:=rv.lst R s a;exact⟨p,us,rfl,.inl l,kL (ru.val R s) c.1,i7 r c.2,by rw[o0 (ru.val R s) c.1 r c.2];exact q⟩
   ·split at e
    ·rename_i c
     rw[Kt]at c;cases e;exact⟨_,zg g,λO d H b u v Q R s ru rv q=>⟨_,w,c.1,c.2,ru.val R s,.inl (by have z:=rv.val R s;rw[a]at z;exact z),q⟩⟩
    ·cases e
  case h_2 w a =>
   have e:=h;unfold vV at e
   split at e
   ·rename_i c
    cases e;refine⟨_,mW,λO d H b u v Q R s ru rv q=> ?_⟩;obtain⟨p,us,rfl,l,r⟩:=rv.tup R s a;exact⟨p,us,rfl,.inr l,kL (ru.val R s) c.1,i7 r c.2,by rw[o0 (ru.val R s) c.1 r c.2];exact q⟩
   ·split at e
    ·rename_i c
     rw[Kt]at c;cases e;exact⟨_,zg g,λO d H b u v Q R s ru rv q=>⟨_,w,c.1,c.2,ru.val R s,.inr (by have z:=rv.val R s;rw[a]at z;exact z),q⟩⟩
    ·cases e
  case h_3=>cases h
 |NotIn =>
  have h:lT x.val y.val=some t:=h;unfold lT at h
  split at h
  case h_1 w a =>
   obtain⟨k,e,rfl⟩:∃k,vV x.val w=some k/\t= !k:=by
    cases e:vV x.val w with
    |none=>rw[e]at h;cases h|some k=>rw[e]at h;cases h;exact⟨k,rfl,rfl⟩
   unfold vV at e
   split at e
   ·rename_i c
    cases e;refine⟨_,oE,λO d H b u v Q R s ru rv q=> ?_⟩;obtain⟨p,us,rfl,l,r⟩:=rv.lst R s a;exact⟨p,us,rfl,.inl l,kL (ru.val R s) c.1,i7 r c.2,by rw[o0 (ru.val R s) c.1 r c.2];exact q⟩
   ·split at e
    ·rename_i c
     rw[Kt]at c;cases e;exact⟨_,Co g,λO d H b u v Q R s ru rv q=>⟨_,w,c.1,c.2,ru.val R s,.inl (by have z:=rv.val R s;rw[a]at z;exact z),q⟩⟩
    ·cases e
  case h_2=>cases h
theorem zt(h:cK b=false):behindInMarks a b=false:=by cases b<;>first|rfl|cases h
theorem HN(c:X.A.units+64<cLine){t:Bool}(g:aK X Hi τ a x)(j:aK X Hi τ b y)(f:cK b=false)(h:bU e x.val y.val=some t):aK X Hi τ (.Compare a [e] [b] pos) (sc (.bl t)):=by obtain⟨l,i,k⟩:=fX c h;intro O d H Q R q;refine we (vD i aT aT (zt f)) ?_;refine g O d H _ R λu H1 s1 r1=>j O d H1 _ (R.ext s1) λv H2 s2 r2=> ?_;exact k O d H H2 u v Q R (s1.trans s2) (r1.ext s2) (r2.back s1) (q _ _ (s1.trans s2) EN)
theorem HM(c:X.A.units+64<cLine){t:Bool}(g:aK X Hi τ a x)(j:aK X Hi τ b y)(f:cK b=false)(h:bU e x.val y.val=some t):fE X Hi τ (.Compare a [e] [b] pos) t:=by obtain⟨l,i,k⟩:=fX c h;intro O d H Q R q;refine wt (nu i aT aT (zt f)) ?_;refine g O d H _ R λu H1 s1 r1=>j O d H1 _ (R.ext s1) λv H2 s2 r2=> ?_;exact k O d H H2 u v _ R (s1.trans s2) (r1.ext s2) (r2.back s1) ⟨t,rfl,q _ (s1.trans s2)⟩
theorem oH(h:cK c=false):lastMarks [d,a] [b,c]=false:=by exact zt h
theorem A4(f:X.A.units+64<cLine){o2:CmpOp}{pos:Pos}{t t2:Bool}(j:aK X Hi τ a x)(m:aK X Hi τ b y)(i:cK c=false)(h:bU r x.val y.val=some t)
  (g:if t=true then∃z,aK X Hi τ c z/\bU o2 y.val z.val=some t2 else t2=false/\∃w z,bU o2 w z=some false):aK X Hi τ (.Compare a [r,o2] [b,c] pos) (sc (.bl t2))/\fE X Hi τ (.Compare a [r,o2] [b,c] pos) t2:=by
 obtain⟨C,l,k⟩:=fX f h;cases t with
 |true =>
  obtain⟨z,s,n⟩:=g;obtain⟨p,e,o⟩:=fX f n
  constructor
  ·intro O d H Q R q
   refine we (qO l e aT aT aT (oH i)) ?_;refine j O d H _ R λu H1 s1 r1=>m O d H1 _ (R.ext s1) λv H2 s2 r2=> ?_;refine k O d H H2 u v _ R (s1.trans s2) (r1.ext s2) (r2.back s1) ⟨true,rfl,?_⟩;refine s O d H2 _ (R.ext (s1.trans s2)) λw H3 s3 r3=> ?_;exact o O d H H3 v w Q R (s1.trans (s2.trans s3)) ((r2.back s1).ext s3) (r3.back (s1.trans s2)) (q _ _ (s1.trans (s2.trans s3)) EN)
  ·intro O d H Q R q
   refine wt (qJ l e aT aT aT (oH i)) ?_;refine j O d H _ R λu H1 s1 r1=>m O d H1 _ (R.ext s1) λv H2 s2 r2=> ?_;refine k O d H H2 u v _ R (s1.trans s2) (r1.ext s2) (r2.back s1) ⟨true,rfl,?_⟩;refine s O d H2 _ (R.ext (s1.trans s2)) λw H3 s3 r3=> ?_;exact o O d H H3 v w _ R (s1.trans (s2.trans s3)) ((r2.back s1).ext s3) (r3.back (s1.trans s2)) ⟨t2,rfl,q _ (s1.trans (s2.trans s3))⟩
 |false =>
  obtain⟨rfl,w,z,n⟩:=g;obtain⟨p,e,o⟩:=fX (Hi:=Hi) (τ:=τ) f (x:=sc w) (y:=sc z) n
  constructor
  ·intro O d H Q R q
   refine we (qO l e aT aT aT (oH i)) ?_;refine j O d H _ R λu H1 s1 r1=>m O d H1 _ (R.ext s1) λv H2 s2 r2=> ?_;exact k O d H H2 u v _ R (s1.trans s2) (r1.ext s2) (r2.back s1) ⟨false,rfl,by rw[LC K0];exact q _ _ (s1.trans s2) EN⟩
  ·intro O d H Q R q
   refine wt (qJ l e aT aT aT (oH i)) ?_;refine j O d H _ R λu H1 s1 r1=>m O d H1 _ (R.ext s1) λv H2 s2 r2=> ?_;exact k O d H H2 u v _ R (s1.trans s2) (r1.ext s2) (r2.back s1) ⟨false,rfl,by rw[LC K0];exact⟨false,rfl,q _ (s1.trans s2)⟩⟩
theorem su(o:CmpOp)(h:vH o=true):∃w z:PV,bU o w z=some false:=by
 cases o
 ·exact⟨.int 0,.int 1,rfl⟩
 ·exact⟨.int 0,.int 0,rfl⟩
 ·exact⟨.int 0,.int 0,rfl⟩
 ·exact⟨.int 1,.int 0,rfl⟩
 ·exact⟨.int 0,.int 0,rfl⟩
 ·exact⟨.int 0,.int 1,rfl⟩
 all_goals cases h
theorem GN{i:Int}(c:aK X Hi τ a x)(e:x.val=.int i):aK X Hi τ (.UnaryOp .USub a pos) (sc (.int (-i))):=by intro O b H Q R q;refine we (ES yF aT) ?_;exact c O b H _ R λu H1 s1 r1=>⟨i,r1.int R s1 e,q _ _ s1 uv⟩
theorem GL(d:aK X Hi τ a x)(e:x.val=.bl b):aK X Hi τ (.UnaryOp .Not a pos) (sc (.bl !b)):=by intro O c H Q R q;refine we (oB aT) ?_;exact d O c H _ R λu H1 s1 r1=>⟨b,r1.bl R s1 e,q _ _ s1 EN⟩
theorem GG(d:aK X Hi τ a x):aK X Hi τ (.BoolOp c [a] pos) x:=by intro O b H Q R q;exact we (tJ aT) (d O b H _ R q)
theorem Ka(g:aK X Hi τ a x)(e:x.val=.bl true)(f:aK X Hi τ (.BoolOp .And (b::d) pos) y):aK X Hi τ (.BoolOp .And (a::b::d) pos) y:=by intro O c H Q R q;refine we (kx aT aT) ?_;exact g O c H _ R λu H1 s1 r1=>⟨true,r1.bl R s1 e,gP (f O c H1 _ (R.ext s1) λw H2 s2 r2=>q w H2 (s1.trans s2) (r2.back s1))⟩
theorem Kb(f:aK X Hi τ a x)(e:x.val=.bl false):aK X Hi τ (.BoolOp .And (a::b::d) pos) (sc (.bl false)):=by intro O c H Q R q;refine we (kx aT aT) ?_;exact f O c H _ R λu H1 s1 r1=>⟨false,r1.bl R s1 e,ij (q _ _ s1 EN)⟩
theorem or_f(g:aK X Hi τ a x)(e:x.val=.bl false)(f:aK X Hi τ (.BoolOp .Or (b::d) pos) y):aK X Hi τ (.BoolOp .Or (a::b::d) pos) y:=by intro O c H Q R q;refine we (EU aT aT) ?_;exact g O c H _ R λu H1 s1 r1=>⟨false,r1.bl R s1 e,ij (f O c H1 _ (R.ext s1) λw H2 s2 r2=>q w H2 (s1.trans s2) (r2.back s1))⟩
theorem or_t(f:aK X Hi τ a x)(e:x.val=.bl true):aK X Hi τ (.BoolOp .Or (a::b::d) pos) (sc (.bl true)):=by intro O c H Q R q;refine we (EU aT aT) ?_;exact f O c H _ R λu H1 s1 r1=>⟨true,r1.bl R s1 e,gP (q _ _ s1 EN)⟩
theorem Gb{t:Bool}(e:fE X Hi τ c t)(h:aK X Hi τ (if t=true then a else b) r):aK X Hi τ (.IfExp c a b pos) r:=by
 intro O d H Q R q;refine we (zV kj aT aT) ?_;refine e O d H _ R λH1 s1=> ?_;cases t with
 |true=>exact gP ((show aK X Hi τ a r from h) O d H1 _ (R.ext s1) λw H2 s2 r2=>q w H2 (s1.trans s2) (r2.back s1))|false=>exact ij ((show aK X Hi τ b r from h) O d H1 _ (R.ext s1) λw H2 s2 r2=>q w H2 (s1.trans s2) (r2.back s1))
set_option tactic.hygienic true in
theorem yK{v:PV}(h:mJ v=some b)(r:Rp X.K Hi false v H u):Hl X.K u H b:=by
 cases v with
 |non=>cases h;rw[Rp.non.mp r];rfl|bl c=>cases h;rw[Rp.bl.mp r];rfl|int i=>cases h;rw[Rp.int.mp r];rfl|str z =>
  have h:(if z.length<=LN then some ((z.length:Int) !=0)else none)=some b:=h
  split at h
  ·rename_i c
   cases h;rw[Rp.str.mp r];exact⟨by rw[dO];exact c,rfl⟩
  ·cases h
 |lst a =>cases h;obtain⟨p,us,rfl,_,l,r⟩:=Rp.lst.mp r;have:=r.len;exact .inl ⟨us,l,by cases a<;>cases us<;>simp_all⟩
 |tup a =>cases h;obtain⟨p,us,rfl,l,r⟩:=Rp.tup.mp r;have:=r.len;exact .inr (.inl ⟨us,l,by cases a<;>cases us<;>simp_all⟩)
 |dK d e =>cases h;obtain⟨p,us,rfl,_,l,z,r⟩:=r;exact .inr (.inr ⟨_,l,by cases d<;>cases us<;>simp_all⟩)
 |dT d e=>cases h
theorem Ex(f:aK X Hi τ e x)(h:mJ x.val=some b)(d:∀a,isTrue e X.env a=(do let v<-a;standAt e.pos;holding [v] (truthy v))):fE X Hi τ e b:=by intro O c H Q R q;refine wt (zI aT d) ?_;exact f O c H _ R λu H1 s1 r1=>⟨b,yK h (r1.val R s1),q _ s1⟩
theorem GK(d:fE X Hi τ a b):fE X Hi τ (.UnaryOp .Not a pos) !b:=by intro O c H Q R q;exact wt (ni kj) (d O c H _ R λH1 s1=>q _ s1)
def mH(X:Cx)(g:Hp)(h:En)(e:Expr)(b:Bool):Prop:=∀(O:List Addr)(d:L2.St)(H:Hp)(Q:Bool->Hp->Prop),aY X.K g O h d H->(∀f,aE H f ->Q b f) -> ∀(c:Sem Value)(a:List (Addr×Obj))(s:Shared),Inv X a d H s->wpAny (model X.prog X.w) X.A (isTrue e X.env c) (TP X a d Q) X.xe s
theorem JO:PW X e (λσ H Q=>∀(b:Sem Value)(a:List (Addr×Obj))(s:Shared),Inv X a σ H s->wpAny (model X.prog X.w) X.A (isTrue e X.env b) (TP X a σ Q) X.xe s):=λwh a s σ H Q I h=>h wh a s I
theorem mH.tc(h:mH X Hi τ e b):fE X Hi τ e b:=λO σ H Q R q pins s I=>h O σ H Q R q _ pins s I
theorem GF(g:fE X Hi τ a b):mH X Hi τ (.BoolOp f [a] pos) b:=by
 intro O d H Q R q e c s I;cases f with
 |And=>exact CU kj e c s d H Q I (g O d H Q R q)|Or=>exact tI kj e c s d H Q I (g O d H Q R q)
theorem BK{t:Bool}(h:fE X Hi τ a t)(d:if t=true then mH X Hi τ (.BoolOp .And (b::f) pos) u else u=false):mH X Hi τ (.BoolOp .And (a::b::f) pos) u:=by
 intro O e H Q R q g c s I;refine Fq kj JO g c s e H Q I ?_;refine h O e H _ R λH1 s1=> ?_;cases t with
 |true=>exact gP ((show mH X Hi τ _ u from d) O e H1 _ (R.ext s1) λH2 s2=>q _ (s1.trans s2))|false =>have d:=d;subst d;exact ij (q _ s1)
theorem EV{t:Bool}(h:fE X Hi τ a t)(d:if t=true then u=true else mH X Hi τ (.BoolOp .Or (b::f) pos) u):mH X Hi τ (.BoolOp .Or (a::b::f) pos) u:=by
 intro O e H Q R q g c s I;refine zE kj JO g c s e H Q I ?_;refine h O e H _ R λH1 s1=> ?_;cases t with
 |false=>exact ij ((show mH X Hi τ _ u from d) O e H1 _ (R.ext s1) λH2 s2=>q _ (s1.trans s2))|true =>have d:=d;subst d;exact gP (q _ s1)
end
end IR
namespace L2
open PySem PySem.Spec PyProof.Rows
section
variable{X:Cx}
inductive Kd(K:W.Frag)(H:Hp):V->Value->Prop where
 | of {x:V} {t:Value} (h:jh K H x t):Kd K H x t
 | lst {a:Addr} {xs:List V} (e:bJ K H a xs):Kd K H (.ref a) (.type "list")
 | tup {a:Addr} {xs:List V} (e:cU K H a xs):Kd K H (.ref a) (.type "tuple")
set_option tactic.hygienic false
theorem uP:bO X (.builtin "isinstance") (λxs H Q=>∃x c t b,xs=[x,.ty c]/\Kd X.K H x t/\W.kitOne X.K t (.type c)=some b/\Q (.bl b) H):=by
 intro pins s σ H xs us Q I r h;obtain⟨x,c,t,b,rfl,ty,e,q⟩:=h;obtain⟨u,w',rfl,rx,ry⟩:=vals2 r;cases ry;cases ty with
 |of ty=>exact xH I rx ty e λtk=>⟨.bl b,H,I.tok _,rfl,q⟩|lst l =>cases rx;obtain⟨its,r',pl,hz⟩:=I.list l;obtain⟨o,n,h1,h2,_⟩:=pl;exact Mf W.kitx_list I.kIn ⟨o,h1,h2⟩ e (λz=>nomatch z) λtk=>⟨.bl b,H,I.tok _,rfl,q⟩
 |tup l =>cases rx;obtain⟨its,r',pl,hz⟩:=I.tuple l;obtain⟨o,h1,h2,_⟩:=pl;exact Mf W.kitx_tuple I.kIn ⟨o,h1,h2⟩ e (λz=>nomatch z) λtk=>⟨.bl b,H,I.tok _,rfl,q⟩
end
section
variable{K:W.Frag}
set_option tactic.hygienic false
theorem kits:(W.kitOne K (.type "NoneType") (.type "int")=some false/\W.kitOne K (.type "NoneType") (.type "str")=some false/\W.kitOne K (.type "NoneType") (.type "list")=some false/\W.kitOne K (.type "NoneType") (.type "tuple")=some false/\W.kitOne K (.type "NoneType") (.type "bool")=some false) /\ (W.kitOne K (.type "bool") (.type "int")=some true/\W.kitOne K (.type "bool") (.type "str")=some false/\W.kitOne K (.type "bool") (.type "list")=some false/\W.kitOne K (.type "bool") (.type "tuple")=some false) /\ (W.kitOne K (.type "int") (.type "bool")=some false/\W.kitOne K (.type "int") (.type "str")=some false/\W.kitOne K (.type "int") (.type "list")=some false/\W.kitOne K (.type "int") (.type "tuple")=some false) /\ (W.kitOne K (.type "str") (.type "bool")=some false/\W.kitOne K (.type "str") (.type "int")=some false/\W.kitOne K (.type "str") (.type "list")=some false/\W.kitOne K (.type "str") (.type "tuple")=some false) /\ (W.kitOne K (.type "list") (.type "bool")=some false/\W.kitOne K (.type "list") (.type "int")=some false/\W.kitOne K (.type "list") (.type "str")=some false/\W.kitOne K (.type "list") (.type "tuple")=some false) /\ (W.kitOne K (.type "tuple") (.type "bool")=some false/\W.kitOne K (.type "tuple") (.type "int")=some false/\W.kitOne K (.type "tuple") (.type "str")=some false/\W.kitOne K (.type "tuple") (.type "list")=some false) /\ (W.kitOne K (.type "dict") (.type "bool")=some false/\W.kitOne K (.type "dict") (.type "int")=some false/\W.kitOne K (.type "dict") (.type "str")=some false/\W.kitOne K (.type "dict") (.type "list")=some false/\W.kitOne K (.type "dict") (.type "tuple")=some false):=by refine⟨⟨?_,?_,?_,?_,?_⟩,⟨?_,?_,?_,?_⟩,⟨?_,?_,?_,?_⟩,⟨?_,?_,?_,?_⟩,⟨?_,?_,?_,?_⟩,⟨?_,?_,?_,?_⟩,⟨?_,?_,?_,?_,?_⟩⟩<;>kernel_rfl
end
end L2
namespace IR
open PySem PySem.Spec PyProof.Rows L2
section
variable{X:Cx}{Hi:Hp}{τ:En}
set_option tactic.hygienic false
theorem aR(h:isStar e=false):starEach (e::b) a=(false,eval e a)::starEach b a:=by cases e<;>first|rfl|cases h
theorem iX{a:Env}{pos:Pos}:∀{b:List Expr},(∀e∈b,isStar e=false)->(backTo pos (starEach b a)).any (·.1)=false
 |[],_=>rfl|e::b,h=>by rw[aR (h e K6)];show(false||(backTo pos (starEach b a)).any (·.1))=false;rw[iX λx hx=>h x (Kx _ hx)];rfl
theorem BI:o8 X Hi τ [] []:=by intro O a H Q R q;exact wa aH (q _ _ (aE.refl _) rfl)
theorem oy(f:aK X Hi τ e r)(d:isStar e=false)(g:o8 X Hi τ c b):o8 X Hi τ (e::c) (r::b):=by intro O a H Q R q;refine wa (aB aT tL (aR d)) ?_;refine f O a H _ R λu H1 s1 r1=>g O a H1 _ (R.ext s1) λus H2 s2 r2=> ?_;exact q _ _ (s1.trans s2) ⟨u,us,rfl,r1.ext s2,r2.back s1⟩
theorem GQ{n:Bool}(h:o8 X Hi τ c b)(i:keeps b=some (a,n))(f:fB a n=some r):aK X Hi τ (.List c pos) r:=by obtain⟨g,rfl⟩:=vL f;intro O e H Q R q;refine we (dv tL) ?_;refine h O e H _ R λus H1 s1 r1=> ?_;have k:=r1.keeps R s1 i;have d:=k.len;exact⟨by rw[dO,<-d];exact g,λp hp=>q _ _ (s1.trans (aM hp _)) (dU s1 hp k)⟩
theorem yJ{m:Nat}{n:Bool}(h:o8 X Hi τ c b)(i:keeps b=some (a,n))(f:w5 a n=some r):aK X Hi τ (.Tuple c m pos) r:=by obtain⟨g,rfl⟩:=Cy f;intro O e H Q R q;refine we (F3 tL) ?_;refine h O e H _ R λus H1 s1 r1=> ?_;have k:=r1.keeps R s1 i;have d:=k.len;exact⟨by rw[dO,<-d];exact g,λp hp=>q _ _ (s1.trans (aM hp _)) (Rp.tup.mpr ⟨p,us,rfl,cU.of (vY R s1 hp),k.mono (aL (aM hp _))⟩)⟩
theorem Dl:aK X Hi τ (.Dict [] [] pos) (.owd (.dK []) [] true):=by intro O b H Q R q;refine we iU ?_;intro p a;exact q _ _ (aM a _) ⟨p,[],_,rfl,a,aD,⟨rfl,rfl⟩,.nil⟩
set_option tactic.hygienic true in
theorem vg{k:ah}{m v:Expr}{n:Bool}(y:PE X m l)(f:∀d H Q,Q (kV k) H->l d H Q)(h:aK X Hi τ v r)(C:r.keep=some (w,n))(A:imm w=true):aK X Hi τ (.Dict [some m] [v] pos) (.owd (.dK [k]) [w] true):=by
 intro O d H Q R q;refine we (Cj (zO y aT Ce) rfl rfl (by intro z;cases z) (by show 1<=15;decide)) ?_;intro p i;have g:=aM i (.dK []);refine f d _ _ ?_;refine h O d _ _ (R.ext g) λu H2 s2 r2=> ?_;have x:=r2.keep (R.ext g) s2 C;refine⟨s2 _ _ aD,[(k,u)],rfl,by show 1<=15;decide,?_⟩;have e:gw [] [(k,u)]=[(k,u)]:=by simp[gw,dS]
 have s:aE H (L2.upd H2 p (.dK [(k,u)])):=λb o z=>by rw[aA (aG z i)];exact s2 _ _ (g _ _ z)
 refine q _ _ s ⟨p,[u],_,rfl,i,aD,⟨rfl,rfl⟩,.cons (Rp.imm A ⟨λb xs z=> ?_,λb o xs z=> ?_⟩ x) .nil⟩
 ·have a:b≠p:=λc=>by
   subst c;have:=af _ _ z;rw[s2 _ _ aD]at this;cases this
  unfold aS at z ⊢
  split at z;cases z
  ·rename_i j
   rw[LC j];unfold del;rw[LC a,aA a];exact z
 ·have a:b≠p:=λc=>by
   subst c;have:=af _ _ z;rw[s2 _ _ aD]at this;cases this
  unfold aS at z ⊢
  split at z;cases z
  ·rename_i j
   rw[LC j];unfold del;rw[LC a,aA a];exact z
def jI(O:List Addr)(G:Hp):Prop:=∀l∈O,(∀a,G l≠some (.tup a))/\∀o a,G l≠some (.frz o (.tup a))
theorem Mo.noTup{o:HO}{G:Hp}(m:Mo o)(e:G l=some o):(∀a,G l≠some (.tup a))/\∀o a,G l≠some (.frz o (.tup a)):=by obtain⟨b,us,m⟩:=m;refine⟨λxs z=> ?_,λo a z=> ?_⟩<;>(rw[e]at z;cases z;cases b<;>first|cases m.1|cases m)
theorem jI.del{G:Hp}(h:jI O G):jI O (IR.del G p):=λl hl=>by
 refine⟨λxs e=> ?_,λo xs e=> ?_⟩
 ·unfold IR.del at e
  split at e;cases e;exact(h l hl).1 xs e
 ·unfold IR.del at e
  split at e;cases e;exact(h l hl).2 o xs e
theorem jI.tups{G:Hp}(h:jI O G):uY G (aS G O):=by
 refine⟨λb xs e=> ?_,λb o xs e=> ?_⟩
 ·unfold aS
  rw[LC λz=>(h b z).1 xs e];exact e
 ·unfold aS
  rw[LC λz=>(h b z).2 o xs e];exact e
set_option tactic.hygienic true
mutual
theorem Rp.avoid{K:W.Frag}{Hj:Hp}{O:List Addr}(hO:∀l∈O,Hj l≠none):∀{v:PV}{G:Hp}{u:V},jI O G->Rp K Hj true v G u->Rp K Hj true v (aS G O) u
 | .non,_,_,_,h=>h
 | .bl _,_,_,_,h=>h
 | .int _,_,_,_,h=>h
 | .str _,_,_,_,h=>h
 | .lst xs,G,_,t,h=>by
  show∃_,_;obtain⟨p,us,e,q,l,r⟩:=h;obtain⟨q1,q2⟩:=q rfl;have q3:aS G O p=some (.lst us):=by
   unfold aS;rw[LC fun z=>hO p z q1];exact q2
  exact⟨p,us,e,fun _=>⟨q1,q3⟩,bJ.of q3,by rw[<- io];exact aJ.avoid hO t.del r⟩
 | .tup xs,_,_,t,h=>by
  show∃_,_;obtain⟨p,us,e,l,r⟩:=h;exact⟨p,us,e,t.tups.at l,aJ.avoid hO t r⟩
 | .dK ks vs,G,_,t,h=>by
  show∃_,_;obtain⟨p,us,e,q,l,z,r⟩:=h;refine⟨p,us,e,q,?_,z,by rw[<- io];exact aJ.avoid hO t.del r⟩;unfold aS;rw[LC fun z=>hO p z (q rfl)];exact l
 | .dT ks vs,G,_,t,h=>by
  show∃_,_;obtain⟨p,us,e,q,l,z,r⟩:=h;refine⟨p,us,e,q,?_,z,by rw[<- io];exact aJ.avoid hO t.del r⟩;unfold aS;rw[LC fun z=>hO p z (q rfl)];exact l
theorem aJ.avoid{K:W.Frag}{Hj:Hp}{O:List Addr}(hO:∀l∈O,Hj l≠none):∀{xs:List PV}{G:Hp}{us:List V},jI O G->aJ K Hj true xs G us->aJ K Hj true xs (aS G O) us
 | [],_,_,_,h=>h
 | x::xs,_,_,t,h=>by
  show∃_,_;obtain⟨u,r,e,a,b⟩:=h;exact⟨u,r,e,Rp.avoid hO t a,aJ.avoid hO t b⟩
end
set_option tactic.hygienic false
theorem Bo{v:PV}(R:aY X.K Hi O τ j H)(c:aE H b)(s:aE b a)(h:Rp X.K b true v a u):ae X.K Hi O H a (told v) u:=by
 have f:∀p,b p=none->Hi p=none:=λp hp=>R.same.free (c.free hp);have g:∀l∈O,b l≠none:=λl hl z=>by obtain⟨us,e,_⟩:=(R.own l hl).2;rw[c _ _ e]at z;cases z
 have i:jI O a :=λl hl=>by obtain⟨us,e,o⟩:=(R.own l hl).2;have n :=s _ _ (c _ _ e);exact o.noTup n
 have d:=(Rp.avoid g i h).entry λ_=>f;cases v with
 |lst x =>obtain⟨p,us,e,q,l,r⟩:=Rp.lst.mp h;obtain⟨m,w⟩:=q rfl;exact⟨p,us,e,c.free m,w,(aJ.avoid g i.del r).entry λ_=>f⟩
 |_=>exact d
theorem call_ok{ct:Ct}(C:bS h X ct){i:List RV}{v:PV}(o:vK x=false)(u:ct.S.lookup x=some .globalImplicit)(n:ct.F.lookup x=some f)
  (d:∀a∈e::c,isStar a=false) (s:o8 X Hi τ (e::c) i) (w:h f (i.map RV.val)=some v):aK X Hi τ (.Call (.Name x p) (e::c) [] pos) (told v):=by
 intro O j H Q R q;obtain⟨k,a,E,D,F,l,y,r,A⟩:=C.fns x f n;have g:Gl X x:=by show X.env.scope.names.lookup x=_;rw[C.S];exact u
 refine we (ag F l g y r A .nil bZ tL (bt o).1 (aR (d e K6)) (iX λb hb=>d b (Kx _ hb))) ?_;refine s O j H _ R λus H1 s1 r1=> ?_;have m:=r1.vals R s1;rw[MP];exact⟨_,v,m.entry (λz=>by cases z),w,λu H' s' ru=>q _ _ (s1.trans s') (Bo R s1 s' ru)⟩
theorem i5{ct:Ct}(C:bS a X ct)(h:own ct x=true):Gl X x/\X.mg x=none:=by
 unfold own at h;rw[Kt]at h;refine⟨?_,C.bl x h.1⟩;show X.env.scope.names.lookup x=_;rw[C.S]
 simpa using h.2
theorem jv{o:Nat->List PV->Option PV}{ct:Ct}(C:bS o X ct)(l:bO X (.builtin f) e)(s:own ct x=true)(v:bootBuiltins x=some (.builtin f))(i:vK x=false)(h:isStar a=false)(m:aK X Hi τ a j)
  (k:∀(O:List Addr)(c:L2.St)(H d:Hp)(u:V)(Q:VK),aY X.K Hi O τ c H->aE H d->ae X.K Hi O H d j u->(∀w b,aE d b->ae X.K Hi O H b r w->Q w b)->e [u] d Q):aK X Hi τ (.Call (.Name x p) [a] [] pos) r:=by
 intro O c H Q R q;obtain⟨g,n⟩:=i5 C s;refine we (bQ l g n v (aB aT aH (aR h)) (bt i).2.2 (bt i).1 (aR h) rfl) ?_;exact m O c H _ R λu H1 s1 r1=>k O c H H1 u Q R s1 r1 λw b s3 r3=>q w b (s1.trans s3) r3
theorem mL{o:Nat->List PV->Option PV}{ct:Ct}(C:bS o X ct)(l:bO X (.type f) e)(s:own ct x=true)(v:bootBuiltins x=some (.type f))(i:vK x=false)(h:isStar a=false)(m:aK X Hi τ a j)
  (k:∀(O:List Addr)(c:L2.St)(H d:Hp)(u:V)(Q:VK),aY X.K Hi O τ c H->aE H d->ae X.K Hi O H d j u->(∀w b,aE d b->ae X.K Hi O H b r w->Q w b)->e [u] d Q):aK X Hi τ (.Call (.Name x p) [a] [] pos) r:=by
 intro O c H Q R q;obtain⟨g,n⟩:=i5 C s;refine we (bY l g n v (aB aT aH (aR h)) (bt i).2.2 (bt i).1 (aR h) rfl) ?_;exact m O c H _ R λu H1 s1 r1=>k O c H H1 u Q R s1 r1 λw b s3 r3=>q w b (s1.trans s3) r3
theorem b2_go{A:Nat->List PV->Option PV}{ct:Ct}(C:bS A X ct){o s:RV}(h:bO X (.builtin l) j)(D:own ct x=true)(E:bootBuiltins x=some (.builtin l))(n:vK x=false)(m:isStar a=false)(f:isStar b=false)(y:aK X Hi τ a o)(i :aK X Hi τ b s)
  (k:∀(O:List Addr)(d:L2.St)(H c:Hp)(u v:V)(Q:VK),aY X.K Hi O τ d H->aE H c->ae X.K Hi O H c o u->ae X.K Hi O H c s v->(∀w e,aE c e->ae X.K Hi O H e r w->Q w e)->j [u,v] c Q):aK X Hi τ (.Call (.Name x p) [a,b] [] pos) r:=by
 intro O d H Q R q;obtain⟨g,z⟩:=i5 C D;refine we (bQ h g z E (aB aT (aB aT aH (aR f)) (aR m)) (bt n).2.2 (bt n).1 (aR m) (iX λc h=>by simp at h;subst h;exact f)) ?_;exact y O d H _ R λu H1 s1 r1=>i O d H1 _ (R.ext s1) λv c s2 r2=>k O d H c u v Q R (s1.trans s2) (r1.ext s2) (r2.back s1) λw e s3 r3=>q w e (s1.trans (s2.trans s3)) r3
theorem rh:∀{d:List PV}{f:List Bool}{H:Hp}{us:List V},jG d=some f->aJ X.K Hi false d H us->us=f.map V.bl
 |[],f,_,_,h,r=>by cases h;exact r|x::d,f,_,_,h,r=>by
  obtain⟨u,g,rfl,a,b⟩:=r;cases x with
  |bl c =>
   have h:(jG d).map (c::·)=some f:=h;cases e:jG d with
   |none=>rw[e]at h;cases h|some i =>rw[e]at h;cases h;rw[Rp.bl.mp a,rh e b];rfl
  |_=>cases h
theorem eC:∀{d:List PV}{f:List Int}{H:Hp}{us:List V},aU d=some f->aJ X.K Hi false d H us->us=f.map V.int
 |[],f,_,_,h,r=>by cases h;exact r|x::d,f,_,_,h,r=>by
  obtain⟨u,g,rfl,a,b⟩:=r;cases x with
  |int c =>
   have h:(aU d).map (c::·)=some f:=h;cases e:aU d with
   |none=>rw[e]at h;cases h|some i =>rw[e]at h;cases h;rw[Rp.int.mp a,eC e b];rfl
  |_=>cases h
theorem kT:∀{d:List PV}{f:List Str}{H:Hp}{us:List V},bg d=some f->aJ X.K Hi false d H us->us=f.map V.str
 |[],f,_,_,h,r=>by cases h;exact r|x::d,f,_,_,h,r=>by
  obtain⟨u,g,rfl,a,b⟩:=r;cases x with
  |str c =>
   have h:(bg d).map (c::·)=some f:=h;cases e:bg d with
   |none=>rw[e]at h;cases h|some i =>rw[e]at h;cases h;rw[Rp.str.mp a,kT e b];rfl
  |_=>cases h
set_option tactic.hygienic true
theorem Gc{t:String}{v:PV}(h:eN t v=some b)(r:Rp X.K Hi false v H u):∃c,Kd X.K H u c/\W.kitOne X.K c (.type t)=some b:=by
 obtain⟨⟨j,s,A,I,N⟩,⟨b1,n,g,O⟩,⟨R,o,Q,E⟩,⟨m,S,f,J⟩,⟨C,D,i,z⟩,⟨t1,w,U,T⟩,⟨e,y,L,M,q⟩⟩:= @kits X.K;cases v with
 |non =>
  rw[Rp.non.mp r];refine⟨_,.of .non,?_⟩;simp only[eN]at h
  split at h
  ·rename_i c
   cases h
   rcases c with rfl|rfl|rfl|rfl|rfl<;>assumption
  ·cases h
 |bl x =>
  rw[Rp.bl.mp r];refine⟨_,.of (.bl x),?_⟩;simp only[eN]at h
  split at h
  ·rename_i c
   cases h
   rcases c with rfl|rfl
   ·assumption
   ·exact fT _
  ·split at h
   ·rename_i c
    cases h
    rcases c with rfl|rfl|rfl<;>assumption
   ·cases h
 |int x =>
  rw[Rp.int.mp r];refine⟨_,.of (.int x),?_⟩;simp only[eN]at h
  split at h
  ·rename_i c
   cases h;subst c;exact fT _
  ·split at h
   ·rename_i c
    cases h
    rcases c with rfl|rfl|rfl|rfl<;>assumption
   ·cases h
 |str x =>
  rw[Rp.str.mp r];refine⟨_,.of (.str x),?_⟩;simp only[eN]at h
  split at h
  ·rename_i c
   cases h;subst c;exact fT _
  ·split at h
   ·rename_i c
    cases h
    rcases c with rfl|rfl|rfl|rfl<;>assumption
   ·cases h
 |lst x =>
  obtain⟨p,us,rfl,_,l,_⟩:=Rp.lst.mp r;refine⟨_,.lst l,?_⟩;simp only[eN]at h
  split at h
  ·rename_i c
   cases h;subst c;exact fT _
  ·split at h
   ·rename_i c
    cases h
    rcases c with rfl|rfl|rfl|rfl<;>assumption
   ·cases h
 |tup x =>
  obtain⟨p,us,rfl,l,_⟩:=Rp.tup.mp r;refine⟨_,.tup l,?_⟩;simp only[eN]at h
  split at h
  ·rename_i c
   cases h;subst c;exact fT _
  ·split at h
   ·rename_i c
    cases h
    rcases c with rfl|rfl|rfl|rfl<;>assumption
   ·cases h
 |dK a d =>
  obtain⟨p,us,rfl,_,l,_⟩:=r;refine⟨_,.of (.dK l),?_⟩;simp only[eN]at h
  split at h
  ·rename_i c
   cases h
   rcases c with rfl|rfl|rfl|rfl|rfl<;>assumption
  ·cases h
 |dT a d=>cases h
theorem Dw{t:Str}(h:yH t=some a):bootBuiltins t=some (.type a)/\vK t=false:=by
 unfold yH at h
 split at h
 ·rename_i c;cases h;rw[LW c];exact⟨Na,by decide⟩
 split at h
 ·rename_i c;cases h;rw[LW c];exact⟨PyProof.Rows.boot_bool,by decide⟩
 split at h
 ·rename_i c;cases h;rw[LW c];exact⟨PyProof.Rows.boot_str,by decide⟩
 split at h
 ·rename_i c;cases h;rw[LW c];exact⟨Mn,by decide⟩
 split at h
 ·rename_i c;cases h;rw[LW c];exact⟨Mi,by decide⟩
 cases h
set_option tactic.hygienic false
theorem isin_ok{ct:Ct}(C:bS w X ct){t:Str}{i:String}{m:RV}(y:own ct ("isinstance":Str)=true)(x:yH t=some i)(e:own ct t=true)(l:isStar a=false)(s:aK X Hi τ a m)(h:eN i m.val=some b) :
  aK X Hi τ (.Call (.Name "isinstance" p) [a,.Name t r] [] pos) (sc (.bl b)):=by
 intro O n H Q R q;obtain⟨g,v⟩:=i5 C y;obtain⟨o,j⟩:=i5 C e;obtain⟨z,d⟩:=Dw x;refine we (bQ uP g v Nl (aB aT (aB (ET o j z (bt d).2.2 (bt d).1) aH) (aR l)) (by decide) (by decide) (aR l) rfl) ?_;refine s O n H _ R λu H1 s1 r1=> ?_;obtain⟨c,f,k⟩:=Gc h (r1.val R s1);exact⟨u,i,c,b,rfl,f,k,q _ _ s1 EN⟩
end
end IR
namespace L2
open PySem PySem.Spec PyProof.Rows
set_option tactic.hygienic false
theorem xT:bO X (.type "str") (λxs H Q=>∃i:Int,xs=[.int i]/\i.natAbs.log2<1920/\Q (.str (Str.ofString (toString i))) H):=by intro pins s σ H xs us Q I r h;obtain⟨i,rfl,hi,q⟩:=h;obtain⟨u,rfl,rx⟩:=vals1 r;obtain⟨t,rfl⟩:=rx;exact SR.Ir hi λu tk=>⟨.str (Str.ofString (toString i)),H,I.kept (λb o e=>e),⟨_,rfl⟩,q⟩
theorem xS:bO X (.type "str") (λxs H Q=>∃z:Str,xs=[.str z]/\Q (.str z) H):=by intro pins s σ H xs us Q I r h;obtain⟨z,rfl,q⟩:=h;obtain⟨u,rfl,rx⟩:=vals1 r;obtain⟨t,rfl⟩:=rx;exact SR.FU λu tk=>⟨.str z,H,I.kept (λb o e=>e),⟨_,rfl⟩,q⟩
end L2
namespace IR
open PySem L2
section
variable{X:Cx}{Hi:Hp}{τ:En}
set_option tactic.hygienic false
theorem Cd(h:zN x=some q):x=km q:=by
 cases x with
 |tup xs =>
  have h:((aU xs).bind λns=>match ns with
   |[a,b]=>some (a,b)|_=>none)=some q:=h
  cases e:aU xs with
  |none=>rw[e]at h;cases h|some ns =>
   rw[e]at h
   match ns,h with
   |[a,b],h =>
    cases h;have:xs=[PV.int a,PV.int b]:=by
     have key:∀xs ns,aU xs=some ns->xs=ns.map PV.int:=by
      intro xs
      induction xs with
      |nil=>intro ns z;cases z;rfl|cons y r ih =>
       intro ns z;cases y with
       |int i =>
        have z:(aU r).map (i::·)=some ns:=z;cases e2:aU r with
        |none=>rw[e2]at z;cases z|some m=>rw[e2]at z;cases z;rw[ih m e2];rfl
       |_=>cases z
     exact key xs _ e
    subst this;rfl
 |_=>cases h
theorem qL:∀{c:List PV}{a:List (Int×Int)},iR c=some a->c=a.map km
 |[],_,h=>by cases h;rfl|x::r,a,h=>by
  have h:((zN x).bind λq=>(iR r).map (q::·))=some a:=h;cases e:zN x with
  |none=>rw[e]at h;cases h|some q =>
   rw[e]at h;cases b:iR r with
   |none=>rw[b]at h;cases h|some m =>rw[b]at h;cases h;rw[Cd e,qL b];rfl
theorem aJ.prs{n:Bool}{H:Hp}:∀{a:List (Int×Int)}{us:List V},aJ X.K Hi n (a.map km) H us->Hq X.K H us a
 |[],us,h=>by
  have h:us=[]:=by exact h
  subst h;exact .nil
 |q::a,us,h=>by
  obtain⟨u,r,rfl,f,c⟩:=h;obtain⟨p,b,rfl,l,d⟩:=Rp.tup.mp f;have e:b=[V.int q.1,V.int q.2]:=by have:=(aJ.ints (xs:=[q.1,q.2])).mp d;exact this
  subst e;exact .cons l (aJ.prs c)
theorem aJ.pick{n:Bool}{H:Hp}{b:List PV}{us:List V}(r:aJ X.K Hi n b H us):∀{a:List Nat},(∀j∈a,j<us.length)->aJ X.K Hi n (a.map λi=>b.getD i .non) H (a.map λi=>us.getD i .non)
 |[],_=>.nil|j::a,h=>by have c:=h j K6;obtain⟨x,e,d⟩:=r.at' (Kv c);refine .cons ?_ (aJ.pick r λi hi=>h i (Kx _ hi));dsimp only;rw[Kz,e,Kz,Kv c];exact d
theorem wW(a:List (Int×Int)):(d8 a).length=a.length:=by unfold d8;rw[Kr,(SW.lD a).length_eq,LX]
theorem qx:∀a:List (Int×Int),imms (a.map km)=true
 |[]=>rfl|q::a=>by show(imm (km q)&&imms (a.map km))=true;rw[qx a];rfl
set_option tactic.hygienic true
theorem ye{A:Nat->List PV->Option PV}{ct:Ct}(C:bS A X ct){m:RV}(D:own ct ("sorted":Str)=true)(w:isStar a=false)(z:aK X Hi τ a m)(e:m.val=.lst g)(h:px g=some r) :
  aK X Hi τ (.Call (.Name "sorted" p) [a] [] pos) r:=by
 unfold px at h;cases f:iR g with
 |none=>rw[f]at h;cases h|some b =>
  rw[f]at h;have h:(if b.length<64 then some (RV.own ((d8 b).map km) true)else none)=some r:=h
  split at h
  ·rename_i c
   cases h;refine jv C jE D PyProof.Rows.boot_sorted (by decide) w z λO σ H H2 u Q R s r q=> ?_;obtain⟨p,us,rfl,l,r⟩:=r.lst R s e;have x:=qL f;subst x;have o:=r.prs;have E:=o.len;refine⟨p,us,b,rfl,l,o,by omega,λd hd=>q _ _ (aM hd _) (dU s hd ?_)⟩;have d:∀j∈SW.xr b,j<us.length:=λj d=>by have:=Lg.mp ((SW.lD b).mem_iff.mp d);omega
   have v:(SW.xr b).map (λi=>(b.map km).getD i .non)=(d8 b).map km:=by
    unfold d8;rw[Lc];refine Lr λi hi=> ?_;have:=d i hi;have y:i<b.length:=by omega
    simp[y]
   have n:=r.pick d;rw[v]at n;exact n.imm (qx _) (R.ext s).tups
  ·cases h
theorem FT{ct:Ct}(C:bS j X ct)(f:own ct ("str":Str)=true)(d:isStar a=false)(g:aK X Hi τ a b)(h:ju .str [b]=some r) :
  aK X Hi τ (.Call (.Name "str" p) [a] [] pos) r:=by
 have h:wR b.val=some r:=h;cases e:b.val with
 |int i =>
  rw[e]at h;have h:(if i.natAbs.log2<1920 then some (sc (.str (Str.ofString (toString i))))else none)=some r:=h
  split at h
  ·rename_i c
   cases h;exact mL C xT f PyProof.Rows.boot_str (by decide) d g λO σ H H2 u Q R s r q=>⟨i,by rw[r.int R s e],c,q _ _ (aE.refl _) B8⟩
  ·cases h
 |str z =>rw[e]at h;cases h;exact mL C xS f PyProof.Rows.boot_str (by decide) d g λO σ H H2 u Q R s r q=>⟨z,by rw[r.str R s e],q _ _ (aE.refl _) B8⟩
 |_=>rw[e]at h;cases h
end
end IR
namespace IR
open PySem PySem.Spec PyProof.Rows L2
section
variable{X:Cx}{Hi:Hp}{τ:En}
theorem AD{v:Nat->List PV->Option PV}{ct:Ct}(C:bS v X ct){n:Nat}(f:own ct ("len":Str)=true)(b:isStar a=false)(d:aK X Hi τ a g)(h:cJ g.val=some n) :
  aK X Hi τ (.Call (.Name "len" p) [a] [] pos) (sc (.int n)):=by
 cases e:g.val with
 |str z =>
  rw[e]at h;have h:(if z.length<=LN then some z.length else none)=some n:=h
  split at h
  ·rename_i c
   cases h;exact jv C jF f M4 (by decide) b d λO σ H H2 u Q R s r q=>⟨z,by rw[r.str R s e],by rw[dO];exact c,q _ _ (aE.refl _) uv⟩
  ·cases h
 |lst o =>rw[e]at h;cases h;refine jv C dW f M4 (by decide) b d λO σ H H2 u Q R s r q=> ?_;obtain⟨p,us,rfl,l,r⟩:=r.lst R s e;exact⟨p,us,rfl,.inl l,by rw[<- r.len];exact q _ _ (aE.refl _) uv⟩
 |tup o =>rw[e]at h;cases h;refine jv C dW f M4 (by decide) b d λO σ H H2 u Q R s r q=> ?_;obtain⟨p,us,rfl,l,r⟩:=r.tup R s e;exact⟨p,us,rfl,.inr l,by rw[<- r.len];exact q _ _ (aE.refl _) uv⟩
 |dK i w =>
  rw[e]at h;cases h;refine jv C uO f M4 (by decide) b d λO σ H H2 u Q R s r q=> ?_;have z:=r.val R s;rw[e]at z;obtain⟨p,us,rfl,_,j,m,_⟩:=z;refine⟨p,_,rfl,.inl j,?_⟩;have:(i.zip us).length=i.length:=by rw[List.length_zip,<-m,NC]
  rw[this];exact q _ _ (aE.refl _) uv
 |_=>rw[e]at h;cases h
set_option tactic.hygienic false
theorem Bc:∀(a:List ah)(us:List V),a.length=us.length->(a.zip us).map (·.2)=us:=by
 intro a
 induction a with
 |nil=>intro us h;cases us with|nil=>rfl|cons _ _=>cases h
 |cons k a b=>intro us h;cases us with|nil=>cases h|cons u us=>simp at h;simp[b us h]
set_option tactic.hygienic true in
theorem lvals_ok{cd:Nat->List PV->Option PV}{ct:Ct}(C:bS cd X ct){o:Expr}(ho:own ct ("list":Str)=true)(hp:plainB o=true)(hl:(ap.endLine==cp.line)=true)(h0:aK X Hi τ o ro)(h:ju .lvals [ro]=some r) :
  aK X Hi τ (.Call (.Name "list" p) [.Call (.Attribute o "values" ap) [] [] cp] [] pos) r:=by
 have hbase:attributeBase o "values" X.env (eval o X.env)=eval o X.env:=by cases o<;>first|rfl|cases hp
 have h:Ea ro.val=some r:=h;cases e:ro.val with
 |dK ks vs =>
  rw[e]at h;have h:(if ks.length<=LN then(aU vs).map (λns=>RV.own (ns.map PV.int) true)else none)=some r:=h
  split at h
  ·rename_i hz
   cases eb:aU vs with
   |none=>rw[eb]at h;cases h|some ns =>rw[eb]at h;cases h;intro O σ H Q R q;obtain⟨g,hm⟩:=i5 C ho;have hs:isStar (.Call (.Attribute o "values" ap) [] [] cp)=false:=rfl;refine we (bY (lW C.calm) g hm Mn (aB (tK NQ N9 PySem.F.type_dict_values mZ aT hbase hl) aH (aR hs)) (by decide) (by decide) (aR hs) rfl) ?_;refine h0 O σ H _ R λu H1 s1 r1=> ?_;have z:=r1.val R s1;rw[e]at z;obtain⟨a,us,rfl,_,ha,hlen,rr⟩:=z;refine⟨.inr (.inr (.inl ⟨rfl,.inl ⟨_,ha⟩⟩)),a,_,rfl,rfl,ha,λv hv=> ?_⟩;have eu:=eC eb rr;have hzz:=hz;have s2:=s1.trans (aM hv (li v a));refine⟨v,a,_,rfl,aD,by rw[aA (aG ha hv)];exact ha,by rw[List.length_zip,<-hlen,NC,Lp];exact hzz,λb hb=> ?_⟩;rw[Bc ks us hlen];refine q _ _ (s2.trans (aM hb _)) (dU s2 hb (aJ.ints.mpr eu))
  ·cases h
 |_=>rw[e]at h;cases h
theorem sumv_ok{cd:Nat->List PV->Option PV}{ct:Ct}(C:bS cd X ct){o:Expr}(ho:own ct ("sum":Str)=true)(hp:plainB o=true)(hl:(ap.endLine==cp.line)=true)(h0:aK X Hi τ o ro)(h:ju .sumv [ro]=some r) :
  aK X Hi τ (.Call (.Name "sum" p) [.Call (.Attribute o "values" ap) [] [] cp] [] pos) r:=by
 have hbase:attributeBase o "values" X.env (eval o X.env)=eval o X.env:=by cases o<;>first|rfl|cases hp
 have h:(match ro.val with
   | .dK _ vs=>(aU vs).map λns=>sc (.int ns.sum)|_=>none)=some r:=h
 cases e:ro.val with
 |dK ks vs =>
  simp only[e]at h;cases eb:aU vs with
  |none=>rw[eb]at h;cases h|some ns =>
   rw[eb]at h;cases h;intro O σ H Q R q;obtain⟨g,hm⟩:=i5 C ho;have hs:isStar (.Call (.Attribute o "values" ap) [] [] cp)=false:=rfl;refine we (bQ (mF C.calm) g hm boot_sum (aB (tK NQ N9 PySem.F.type_dict_values mZ aT hbase hl) aH (aR hs)) (by decide) (by decide) (aR hs) rfl) ?_;refine h0 O σ H _ R λu H1 s1 r1=> ?_;have z:=r1.val R s1;rw[e]at z;obtain⟨a,us,rfl,_,ha,hlen,rr⟩:=z;refine⟨.inr (.inr (.inl ⟨rfl,.inl ⟨_,ha⟩⟩)),a,_,rfl,rfl,ha,λv hv=> ?_⟩;have eu:=eC eb rr;refine⟨v,a,_,ns,rfl,aD,by rw[aA (aG ha hv)];exact ha,?_,q _ _ (s1.trans (aM hv _)) uv⟩;rw[<- eu];have key:∀(ks:List ah)(us:List V),ks.length=us.length->(ks.zip us).map (·.2)=us:=by
    intro ks
    induction ks with
    |nil=>intro us h;cases us with|nil=>rfl|cons _ _=>cases h
    |cons k ks ih=>intro us h;cases us with|nil=>cases h|cons u us=>simp at h;simp[ih us h]
   exact key ks us hlen
 |_=>simp only[e]at h;cases h
set_option tactic.hygienic true
theorem je{k:Nat}(h:vq x k=some f):(x="len"/\k=1/\f=.len)\/(x="int"/\k=1/\f=.int)\/(x="list"/\k=1/\f=.list)\/(x="tuple"/\k=1/\f=.tuple)\/(x="all"/\k=1/\f=.all)\/(x="min"/\k=2/\f=.min)\/(x="max"/\k=2/\f=.max)\/(x="abs"/\k=1/\f=.abs)\/(x="any"/\k=1/\f=.any)\/(x="sum"/\k=1/\f=.sum)\/(x="sorted"/\k=1/\f=.sorted):=by
 unfold vq at h
 split at h
 ·rename_i c;rw[Kt]at c;cases h;exact .inl ⟨LW c.1,LW c.2,rfl⟩
 split at h
 ·rename_i c;rw[Kt]at c;cases h;exact .inr (.inl ⟨LW c.1,LW c.2,rfl⟩)
 split at h
 ·rename_i c;rw[Kt]at c;cases h;exact .inr (.inr (.inl ⟨LW c.1,LW c.2,rfl⟩))
 split at h
 ·rename_i c;rw[Kt]at c;cases h;exact .inr (.inr (.inr (.inl ⟨LW c.1,LW c.2,rfl⟩)))
 split at h
 ·rename_i c;rw[Kt]at c;cases h;exact .inr (.inr (.inr (.inr (.inl ⟨LW c.1,LW c.2,rfl⟩))))
 split at h
 ·rename_i c;rw[Kt]at c;cases h;exact .inr (.inr (.inr (.inr (.inr (.inl ⟨LW c.1,LW c.2,rfl⟩)))))
 split at h
 ·rename_i c;rw[Kt]at c;cases h;exact .inr (.inr (.inr (.inr (.inr (.inr (.inl ⟨LW c.1,LW c.2,rfl⟩))))))
 split at h
 ·rename_i c;rw[Kt]at c;cases h;exact .inr (.inr (.inr (.inr (.inr (.inr (.inr (.inl ⟨LW c.1,LW c.2,rfl⟩)))))))
 split at h
 ·rename_i c;rw[Kt]at c;cases h;exact .inr (.inr (.inr (.inr (.inr (.inr (.inr (.inr (.inl ⟨LW c.1,LW c.2,rfl⟩))))))))
 split at h
 ·rename_i c;rw[Kt]at c;cases h;exact .inr (.inr (.inr (.inr (.inr (.inr (.inr (.inr (.inr (.inl ⟨LW c.1,LW c.2,rfl⟩)))))))))
 split at h
 ·rename_i c;rw[Kt]at c;cases h;exact .inr (.inr (.inr (.inr (.inr (.inr (.inr (.inr (.inr (.inr (⟨LW c.1,LW c.2,rfl⟩))))))))))
 cases h
theorem la{k:Nat}(h:jf x k=some f):(x="str"/\k=1/\f=.str)\/vq x k=some f:=by
 unfold jf at h
 split at h
 ·rename_i c;rw[Kt]at c;cases h;exact .inl ⟨LW c.1,LW c.2,rfl⟩
 ·exact .inr h
theorem bf1_ok{A:Nat->List PV->Option PV}{ct:Ct}(C:bS A X ct)(o:own ct x=true)(y:jf x 1=some f)(m:isStar a=false)(g:aK X Hi τ a d)(h:ju f [d]=some r) :
  aK X Hi τ (.Call (.Name x p) [a] [] pos) r:=by
 rcases la y with⟨rfl,_,rfl⟩|y
 ·exact FT C o m g h
 rcases je y with⟨rfl,_,rfl⟩|⟨rfl,_,rfl⟩|⟨rfl,_,rfl⟩|⟨rfl,_,rfl⟩|⟨rfl,_,rfl⟩|⟨_,z,_⟩|⟨_,z,_⟩|⟨rfl,_,rfl⟩|⟨rfl,_,rfl⟩|⟨rfl,_,rfl⟩|⟨rfl,_,rfl⟩
 ·have h:(cJ d.val).map (λn=>sc (.int (n:Nat)))=some r:=h
  cases e:cJ d.val with
  |none=>rw[e]at h;cases h|some n =>rw[e]at h;cases h;exact AD C o m g e
 ·unfold ju at h
  cases e:d.val with
  |int i =>simp only[e]at h;cases h;exact mL C jZ o Na (by decide) m g λO σ H H2 u Q R s r q=>.inl ⟨i,by rw[r.int R s e],q _ _ (aE.refl _) uv⟩
  |bl i =>simp only[e]at h;cases h;exact mL C jZ o Na (by decide) m g λO σ H H2 u Q R s r q=>.inr ⟨i,by rw[r.bl R s e],q _ _ (aE.refl _) uv⟩
  |_=>simp only[e]at h;cases h
 ·have h:(match d.its with|some (b,n)=>some (RV.own b n)|none=>none)=some r:=h
  cases e:d.its with
  |none=>rw[e]at h;cases h|some w =>obtain⟨b,n⟩:=w;rw[e]at h;cases h;refine mL C eW o Mn (by decide) m g λO σ H H2 u Q R s r q=> ?_;obtain⟨p,us,rfl,l,r⟩:=r.its R s e;exact⟨p,us,rfl,l.imp (·.1) (·.1),λl2 hl=>q _ _ (aM hl _) (dU s hl r)⟩
 ·have h:(match d.its with|some (b,n)=>some (RV.frz (.tup b) n)|none=>none)=some r:=h
  cases e:d.its with
  |none=>rw[e]at h;cases h|some w =>
   obtain⟨b,n⟩:=w;rw[e]at h;cases h;refine mL C cH o Mi (by decide) m g λO σ H H2 u Q R s r q=> ?_;obtain⟨p,us,rfl,l,r⟩:=r.its R s e;refine⟨p,us,rfl,l.imp (λl=>⟨l.1,λl2 hl=> ?_⟩) (λl=>⟨l.1,?_⟩)⟩
   ·exact q _ _ (aM hl _) (Rp.tup.mpr ⟨l2,us,rfl,cU.of (vY R s hl),r.mono (aL (aM hl _))⟩)
   ·exact q _ _ (aE.refl _) (Rp.tup.mpr ⟨p,us,rfl,DY R s l.1,r⟩)
 ·unfold ju at h
  cases e:d.val with
  |lst b =>
   simp only[e]at h;cases j:jG b with
   |none=>rw[j]at h;cases h|some v =>rw[j]at h;cases h;refine jv C (rf C.calm) o boot_all (by decide) m g λO σ H H2 u Q R s r q=> ?_;obtain⟨p,us,rfl,l,r⟩:=r.lst R s e;have:=rh j r;subst this;exact⟨p,v,rfl,l,q _ _ (aE.refl _) EN⟩
  |_=>simp only[e]at h;cases h
 ·cases z
 ·cases z
 ·exact absurd (show none=some r from h) (by simp)
 ·exact absurd (show none=some r from h) (by simp)
 ·have h:(match d.val with
   | .lst b=>(aU b).map λns=>sc (.int ns.sum)|_=>none)=some r:=h
  cases e:d.val with
  |lst b =>
   simp only[e]at h;cases j:aU b with
   |none=>rw[j]at h;cases h|some v =>rw[j]at h;cases h;refine jv C (mG C.calm) o boot_sum (by decide) m g λO σ H H2 u Q R s r q=> ?_;obtain⟨p,us,rfl,l,r⟩:=r.lst R s e;have:=eC j r;subst this;exact⟨p,v,rfl,l,q _ _ (aE.refl _) uv⟩
  |_=>simp only[e]at h;cases h
 ·have h:(match d.val with
   | .lst b=>ee b|_=>none)=some r:=h
  cases e:d.val with
  |lst b =>
   simp only[e]at h;unfold ee at h;cases j:aU b with
   |none =>rw[j]at h;exact ye C o m g e h
   |some v =>
    rw[j]at h;have h:(if v.length<64 then some (RV.own ((L2.sortI v).map PV.int) true)else none)=some r:=h
    split at h
    ·rename_i c
     cases h;refine jv C jY o boot_sorted (by decide) m g λO σ H H2 u Q R s r q=> ?_;obtain⟨p,us,rfl,l,r⟩:=r.lst R s e;have:=eC j r;subst this;exact⟨p,v,rfl,l,c,λa g=>q _ _ (aM g _) (dU s g (aJ.ints.mpr rfl))⟩
    ·cases h
  |_=>simp only[e]at h;cases h
set_option tactic.hygienic false
theorem Hc{A:Nat->List PV->Option PV}{ct:Ct}(C:bS A X ct){m:RV}(y:own ct x=true)(n:jf x 2=some f)(o:isStar a=false)(g:isStar b=false)(w:aK X Hi τ a l)(e :aK X Hi τ b m)(h:ju f [l,m]=some r) :
  aK X Hi τ (.Call (.Name x p) [a,b] [] pos) r:=by
 refine MK λno=> ?_
 rcases la n with⟨_,z,_⟩|n
 ·cases z
 rcases je n with⟨_,z,_⟩|⟨_,z,_⟩|⟨_,z,_⟩|⟨_,z,_⟩|⟨_,z,_⟩|⟨rfl,_,rfl⟩|⟨rfl,_,rfl⟩|⟨_,z,_⟩|⟨_,z,_⟩|⟨_,z,_⟩|⟨_,z,_⟩
 ·cases z
 ·cases z
 ·cases z
 ·cases z
 ·cases z
 ·unfold ju at h
  cases c:l.val with
  |int i =>
   cases d:m.val with
   |int j =>simp only[c,d]at h;cases h;exact no<|b2_go C (xU C.calm) y boot_min (by decide) o g w e λO σ H H2 u v Q R s r r2 q=>⟨i,j,by rw[r.int R s c,r2.int R s d],q _ _ (aE.refl _) uv⟩
   |_=>simp only[c,d]at h;cases h
  |_=>simp only[c]at h;cases h
 ·unfold ju at h
  cases c:l.val with
  |int i =>
   cases d:m.val with
   |int j =>simp only[c,d]at h;cases h;exact no<|b2_go C (xV C.calm) y boot_max (by decide) o g w e λO σ H H2 u v Q R s r r2 q=>⟨i,j,by rw[r.int R s c,r2.int R s d],q _ _ (aE.refl _) uv⟩
   |_=>simp only[c,d]at h;cases h
  |_=>simp only[c]at h;cases h
 ·cases z
 ·cases z
 ·cases z
 ·cases z
set_option tactic.hygienic true in
theorem aJ.lrng{n:Bool}{H:Hp}(k:Nat):aJ X.K Hi n (lrng k) H (Eb k):=by
 unfold IR.lrng Eb
 generalize List.range k=l
 induction l with
 | nil=>exact .nil
 | cons x l ih=>exact .cons (Rp.int.mpr rfl) ih
theorem count_ok{o:Expr}{i:RV}(s:plainB o=true)(v:(b.endLine==c.line)=true)(g:isStar a=false)(m:aK X Hi τ o j)(u:aK X Hi τ a i)(h:ib .count j [i]=some r) :
  aK X Hi τ (.Call (.Attribute o "count" b) [a] [] c) r:=by
 have d:attributeBase o "count" X.env (eval o X.env)=eval o X.env:=by cases o<;>first|rfl|cases s
 unfold ib at h;cases e:j.val with
 |str z =>
  cases f:i.val with
  |str y =>simp only[e,f]at h;cases h;intro O l H Q R q;refine we (gX Mm PySem.F.slot_str_count PySem.F.type_str_count AA aT (aB aT aH (aR g)) d (by rw[aR g];rfl) v (aR g) rfl) ?_;refine m O l H _ R λu H1 s1 r1=> ?_;have p:=r1.str R s1 e;subst p;refine⟨rfl,u O l H1 _ (R.ext s1) λv H2 s2 r2=> ?_⟩;have n:=(r2.back s1).str R (s1.trans s2) f;subst n;exact⟨z,y,rfl,rfl,q _ _ (s1.trans s2) uv⟩
  |_=>simp only[e,f]at h;cases h
 |_=>simp only[e]at h;cases h
theorem ip(a:Str):∀b:List Str,Str.join a b=bP a b
 |[]=>rfl|[x]=>rfl|x::y::r=>by show x++a++Str.join a (y::r)=_;rw[ip a (y::r)];rfl
set_option tactic.hygienic true in
theorem join_ok{o:Expr}{A:RV}(L:plainB o=true)(S:(f.endLine==g.line)=true)(D:isStar a=false)(J:aK X Hi τ o C)(M:aK X Hi τ a A)(h:ib .join C [A]=some r) :
  aK X Hi τ (.Call (.Attribute o "join" f) [a] [] g) r:=by
 have x:attributeBase o "join" X.env (eval o X.env)=eval o X.env:=by cases o<;>first|rfl|cases L
 have y:∀(b:Str)d (j:C.val=.str b),(∀O n (H m:Hp)(u:V),aY X.K Hi O τ n H->aE H m->ae X.K Hi O H m A u->∃p,u=.ref p/\(bJ X.K m p (d.map V.str)\/cU X.K m p (d.map V.str))) -> (d.map (·.length)).sum+d.length*b.length<=LN->aK X Hi τ (.Call (.Attribute o "join" f) [a] [] g) (sc (.str (bP b d))):=by intro b d j E T O n H Q R q;refine we (gX Mm PySem.F.slot_str_join PySem.F.type_str_join vN aT (aB aT aH (aR D)) x (by rw[aR D];rfl) S (aR D) rfl) ?_;refine J O n H _ R λu H1 s1 r1=> ?_;have i:=r1.str R s1 j;subst i;refine⟨rfl,M O n H1 _ (R.ext s1) λv m s2 r2=> ?_⟩;obtain⟨p,rfl,N⟩:=E O n H m v R (s1.trans s2) (r2.back s1);refine⟨b,p,d,rfl,rfl,N,T,?_⟩;have e:Txt.join b d=bP b d:=(PySem.StrLaws.glued_eq_join _ _).trans (ip b d);rw[e];exact q _ _ (s1.trans s2) B8
 unfold ib at h;cases i:C.val with
 |str b =>
  cases z:A.val with
  |lst I =>
   simp only[i,z]at h;cases w:bg I with
   |none=>rw[w]at h;cases h|some d =>
    rw[w]at h;have h:(if(d.map (·.length)).sum+d.length*b.length<=LN then some (sc (.str (bP b d)))else none)=some r:=h
    split at h
    ·rename_i c
     cases h;refine y b d i (λO n H m u R s r=> ?_) c;obtain⟨p,us,rfl,l,r⟩:=r.lst R s z;have:=kT w r;subst this;exact⟨p,rfl,.inl l⟩
    ·cases h
  |tup I =>
   simp only[i,z]at h;cases w:bg I with
   |none=>rw[w]at h;cases h|some d =>
    rw[w]at h;have h:(if(d.map (·.length)).sum+d.length*b.length<=LN then some (sc (.str (bP b d)))else none)=some r:=h
    split at h
    ·rename_i c
     cases h;refine y b d i (λO n H m u R s r=> ?_) c;obtain⟨p,us,rfl,l,r⟩:=r.tup R s z;have:=kT w r;subst this;exact⟨p,rfl,.inr l⟩
    ·cases h
  |_=>simp only[i,z]at h;cases h
 |_=>simp only[i]at h;cases h
theorem noSl(h:eT b=false):Hu b:=by intro o i;cases b<;>first|rfl|cases h
theorem Cg(h:eT b=false):vx b:=by intro o i;cases b<;>first|rfl|cases h
theorem lg{n:Bool}{us:List V}{k:Int}(r:aJ X.K Hi n a H us)(h:dH a k=some e):∃u,dH us k=some u/\Rp X.K Hi n e H u:=by
 unfold dH at h ⊢;rw[<- r.len];cases c:sH a.length k with
 |none=>rw[c]at h;cases h|some j =>rw[c]at h;exact r.at h
set_option tactic.hygienic true in
theorem AT(W:X.A.units+64<cLine){i:Expr}(U:eT i=false)(T:aK X Hi τ a x)(S:aK X Hi τ i y)(h:index x y=some r):aK X Hi τ (.Subscript a i pos) r:=by
 have C:∀{D:R2}(N:Km X D),(∀O f (H d:Hp)(u v:V)(Q:VK),aY X.K Hi O τ f H->aE H d->ae X.K Hi O H d x u->ae X.K Hi O H d y v->(∀w,ae X.K Hi O H d r w->Q w d)->D u v d Q)->aK X Hi τ (.Subscript a i pos) r:=by intro D N k O f H Q R q;refine we (ku N aT aT (Cg U)) ?_;refine T O f H _ R λu H1 s1 r1=>S O f H1 _ (R.ext s1) λv d s2 r2=> ?_;exact k O f H d u v Q R (s1.trans s2) (r1.ext s2) (r2.back s1) λw r3=>q w d (s1.trans s2) r3
 unfold index at h
 split at h
 case h_1 j n k m =>
  cases c:dH j k with
  |none=>rw[c]at h;cases h|some e =>rw[c]at h;cases h;refine C eS λO f H d u v Q R s r1 r2 q=> ?_;obtain⟨p,us,rfl,_,l,r⟩:=Rp.lst.mp (show Rp X.K Hi n (.lst j) (aS d O) u from r1);obtain⟨w,o,b⟩:=lg r c;exact⟨p,us,k,w,rfl,r2.int R s m,(af).seq l,o,q w (b.mono bR).up⟩
 case h_2 j n k m =>
  cases c:dH j k with
  |none=>rw[c]at h;cases h|some e =>rw[c]at h;cases h;refine C tm λO f H d u v Q R s r1 r2 q=> ?_;obtain⟨p,us,rfl,l,r⟩:=Rp.tup.mp (show Rp X.K Hi n (.tup j) (aS d O) u from r1);obtain⟨w,o,b⟩:=lg r c;exact⟨p,us,k,w,rfl,r2.int R s m,(af).tup l,o,q w b.up⟩
 case h_3 j n k m =>
  cases c:dH j k with
  |none=>rw[c]at h;cases h|some e =>rw[c]at h;cases h;refine C eS λO f H d u v Q R s r1 r2 q=> ?_;obtain⟨p,us,rfl,h0,M,r⟩:=r1;obtain⟨w,o,b⟩:=lg r c;exact⟨p,us,k,w,rfl,r2.int R s m,bJ.of M,o,q w (b.mono (aL bR)).up⟩
 case h_4 j k m =>
  cases c:dH j k with
  |none=>rw[c]at h;cases h|some e =>
   rw[c]at h;cases h;refine C eS λO f H d u v Q R s r1 r2 q=> ?_;obtain⟨p,us,rfl,_,l,r⟩:=Rp.lst.mp (show Rp X.K Hi false (.lst j) d u from r1);obtain⟨w,o,b⟩:=lg r c;refine⟨p,us,k,w,rfl,r2.int R s m,l,o,q w ?_⟩;unfold fQ
   split
   ·rename_i L
    exact Rp.imm L (R.ext s).tups (b.mono bR)
   ·exact b.mono bR
 case h_5 j k m =>
  cases c:dH j k with
  |none=>rw[c]at h;cases h|some e =>
   rw[c]at h;cases h;refine C tm λO f H d u v Q R s r1 r2 q=> ?_;obtain⟨p,us,rfl,l,r⟩:=Rp.tup.mp (show Rp X.K Hi false (.tup j) d u from r1);obtain⟨w,o,b⟩:=lg r c;refine⟨p,us,k,w,rfl,r2.int R s m,l,o,q w ?_⟩;unfold fQ
   split
   ·rename_i L
    exact Rp.imm L (R.ext s).tups b
   ·exact b
 case h_6 z n k m =>
  split at h
  ·rename_i hz
   cases c:dH z.cps.toList k with
   |none=>rw[c]at h;cases h|some e =>rw[c]at h;cases h;exact C AQ λO f H d u v Q R s r1 r2 q=>⟨z,k,e,r1.str R s rfl,r2.int R s m,by rw[dO];exact hz,c,q _ B8⟩
  ·cases h
 case h_7 I J n =>
  cases E:gZ y.val with
  |none=>rw[E]at h;cases h|some k =>
   rw[E]at h;have h:(jy I J k).map (λe=>RV.frz e (n||imm e))=some r:=h;cases c:jy I J k with
   |none=>rw[c]at h;cases h|some e =>
    rw[c]at h;cases h;intro O f H Q R q;refine we (vC (by omega) aT aT (noSl U)) ?_;refine T O f H _ R λu H1 s1 r1=>S O f H1 _ (R.ext s1) λv d s2 r2=> ?_;obtain⟨p,us,rfl,M,Y,Z⟩:=Rp.dK (show Rp X.K Hi n (.dK I J) (aS d O) u from r1.ext s2);obtain⟨w,o,b⟩:=(uf Z Y).2 e c;rw[qm E ((r2.back s1).val R (s1.trans s2))];have g:gR d p (kV k) (some w):=by rw[<- o];exact .k (af p _ M)
    exact⟨p,w,rfl,g,q w d (s1.trans s2) (b.mono bR).up⟩
 case h_8=>cases h
variable(X Hi τ)in
def xm(e:Option Expr)(o:Option Int):Prop:=match e,o with
 |none,none=>True|some e,some i=>∃r,aK X Hi τ e r/\r.val=.int i|_,_=>False
theorem kX{lo:Option Expr}(hr:SlR X rr)(ha:aK X Hi τ a x)(hl:xm X Hi τ lo l)(hh:xm X Hi τ hi h)
  (k:∀(O:List Addr)(σ:L2.St)(H H2:Hp)(u:V)(Q:VK),aY X.K Hi O τ σ H->aE H H2->ae X.K Hi O H H2 x u->(∀w H3,aE H2 H3->ae X.K Hi O H H3 r w->Q w H3)->rr u l h H2 Q):aK X Hi τ (.Subscript a (.Slice lo hi none p2) pos) r:=by
 have part:∀{e:Option Expr}{o:Option Int},xm X Hi τ e o->∃t,PO X e t/\∀O σ H Q,aY X.K Hi O τ σ H->(∀H',aE H H' ->Q o H')->t σ H Q:=by
  intro e o he;cases e with
  |none =>
   cases o with
   |none=>exact⟨_,oA,λO σ H Q R q=>q H (aE.refl _)⟩|some i=>cases he
  |some e =>
   cases o with
   |none=>cases he|some i =>obtain⟨r,h1,h2⟩:=he;exact⟨_,n9 aT,λO σ H Q R q=>h1 O σ H _ R λu H1 s1 r1=>⟨i,r1.int R s1 h2,q _ s1⟩⟩
 obtain⟨tl,pl,ql⟩:=part hl;obtain⟨th,ph,qh⟩:=part hh;intro O σ H Q R q;refine we (kr hr aT pl ph) ?_;refine ha O σ H _ R λu H1 s1 r1=>ql O σ H1 _ (R.ext s1) λH2 s2=>qh O σ H2 _ (R.ext (s1.trans s2)) λH3 s3=> ?_;exact k O σ H H3 u Q R (s1.trans (s2.trans s3)) (r1.ext (s2.trans s3)) λw H4 s4 r4=>q w H4 (s1.trans (s2.trans (s3.trans s4))) r4
theorem aJ.cut{n:Bool}{us:List V}(r:aJ X.K Hi n b H us)(c a:Option Int):aJ X.K Hi n (IR.cut b c a) H (lQ us c a):=by unfold IR.cut lQ;rw[<- r.len];exact(r.drop _).take _
set_option tactic.hygienic true
theorem yh{m:Option Expr}(f:aK X Hi τ a x)(g:xm X Hi τ j l)(c:xm X Hi τ m h)(e:slice x l h=some r):aK X Hi τ (.Subscript a (.Slice j m none y) pos) r:=by
 unfold slice at e
 split at e
 case h_1 z b =>
  split at e
  ·rename_i o
   split at e
   ·rename_i k
    split at e
    ·rename_i v
     cases e;refine kX yi f g c λO σ H H2 u Q R s r1 q=>⟨z,r1.str R s b,by rw[dO];exact o,?_⟩;have d:Txt.slice z none (some k)=(⟨(z.cps.toList.take k.toNat).toArray⟩:Str):=by refine UM.eO ?_;have:=wZ z k.toNat;rw[show((k.toNat:Nat):Int)=k by omega]at this;rw[this]
     rw[d];exact q _ _ (aE.refl _) B8
    ·cases e
   ·rename_i k
    split at e
    ·rename_i v
     cases e;refine kX yi f g c λO σ H H2 u Q R s r1 q=>⟨z,r1.str R s b,by rw[dO];exact o,?_⟩;have d:Txt.slice z (some k) none=(⟨(z.cps.toList.drop k.toNat).toArray⟩:Str):=by refine UM.eO ?_;have:=wY z k.toNat;rw[show((k.toNat:Nat):Int)=k by omega]at this;rw[this]
     rw[d];exact q _ _ (aE.refl _) B8
    ·cases e
   ·cases e
  ·cases e
 case h_2 b =>
  cases i:x.its with
  |none=>rw[i]at e;cases e|some w =>obtain⟨D,n⟩:=w;rw[i]at e;cases e;refine kX nS f g c λO σ H H2 u Q R s r1 q=> ?_;obtain⟨p,us,rfl,A,C⟩:=r1.itsL R s i b;exact⟨p,us,rfl,A,λp3 hp=>q _ _ (aM hp _) (dU s hp (C.up.cut _ _))⟩
 case h_3=>cases e
theorem CI{m o:Pos}{v:Nat}(A:aK X Hi τ a x)(e:wk x=some r):aK X Hi τ (.Subscript a (.Slice none none (some (.UnaryOp .USub (.Constant (.int 1) v m) l)) o) pos) r:=by
 have i:∀{f:V->Hp->VK->Prop}(j:RvR X f),(∀O b H c u Q,aY X.K Hi O τ b H->aE H c->ae X.K Hi O H c x u->(∀w d,aE c d->ae X.K Hi O H d r w->Q w d)->f u c Q) -> aK X Hi τ (.Subscript a (.Slice none none (some (.UnaryOp .USub (.Constant (.int 1) v m) l)) o) pos) r:=by intro f j k O b H Q R q;refine we (F5 j aT (ES yF bA)) ?_;exact A O b H _ R λu H1 s1 r1=>⟨1,rfl,rfl,k O b H H1 u Q R s1 r1 λw d s3 r3=>q w d (s1.trans s3) r3⟩
 unfold wk at e
 split at e
 case h_1 z g =>
  split at e
  ·rename_i D
   cases e;exact i Fd λO b H c u Q R s r1 q=>⟨z,r1.str R s g,by rw[dO];exact D,q _ _ (aE.refl _) B8⟩
  ·cases e
 case h_2 g =>
  cases h:x.its with
  |none=>rw[h]at e;cases e|some w =>obtain⟨E,n⟩:=w;rw[h]at e;cases e;refine i CC λO b H c u Q R s r1 q=> ?_;obtain⟨p,us,rfl,y,C⟩:=r1.itsL R s h g;exact⟨p,us,rfl,y,λp3 hp=>q _ _ (aM hp _) (dU s hp C.rev)⟩
 case h_3=>cases e
end
end IR
namespace IR
open PySem PySem.Spec PyProof.Rows L2
section
variable{X:Cx}{Hi:Hp}{τ:En}
def WI(X:Cx)(d a:Expr)(c:L2.St)(H:Hp)(R:It->Hp->Prop):Prop:=∃b,PI X d a b/\b c H R
theorem Fz:PI X b a (λσ H R=>WI X b a σ H R):=λpins s σ H R I ⟨wi,h,q⟩=>h pins s σ H R I q
def uZ(O:List Addr)(H:Hp):Prop:=∀l∈O,∃o,H l=some o/\Mo o
theorem aY.lsts{K:W.Frag}(R:aY K Hi O τ a H):uZ O H:=λl hl=>(R.own l hl).2
def El(B:Hp)(H:Hp)(O:List Addr):Prop:=uZ O H/\aE B (aS H O)
def OkB(B:Hp)(H:Hp)(O:List Addr):Prop:=uZ O H/\aE B H
set_option tactic.hygienic false
theorem uZ.tups(h:uZ O H):uY H (aS H O):=by refine jI.tups λl hl=> ?_;obtain⟨us,e,a⟩:=h l hl;exact a.noTup e
variable(X Hi)in
structure jw(J:It)(Ok:Hp->List Addr->Prop)(xs:List PV)(n:Bool):Prop where
 go:∀(H:Hp)(O:List Addr)(i:Nat),Ok H O->i<xs.length->J.go i H
 stop:∀(H:Hp)(O:List Addr),Ok H O->J.stop xs.length H
 yld:∀(H:Hp)(O:List Addr)(i:Nat)(u:V)(H' :Hp),Ok H O->i<xs.length->J.yld i H u H' ->aE H H' /\∃x,xs[i]? =some x/\Rp X.K Hi n x (aS H' O) u
variable(X Hi τ)in
def o7(f a:Expr)(e:List PV)(n b:Bool):Prop:=∀(O:List Addr)(d:L2.St)(H:Hp)(R:It->Hp->Prop),aY X.K Hi O τ d H -> (∀J c,aE H c->jw X Hi J (if b=true then OkB c else El (aS c O)) e n->R J c)->WI X f a d H R
theorem Ef{B:Hp}{p:Addr}{us:List V}{a:List PV}{n:Bool}(l:bJ X.K B p us)(r:aJ X.K Hi n a B us):jw X Hi (IA X.K p) (El B) a n where
 go:=λH O i ok hi=>⟨us,us[i]'(by rw[<- r.len];exact hi),(ok.2.trans af).seq l,by simp⟩
 stop:=λH O ok=>⟨us,(ok.2.trans af).seq l,by rw[r.len];exact Ky _⟩
 yld:=λH O i u H' ok hi y=>by obtain⟨e,y⟩:=y;subst e;obtain⟨x,c,b⟩:=r.at' (y us ((ok.2.trans af).seq l));exact⟨aE.refl _,x,c,b.mono ok.2⟩
theorem Jr{B:Hp}{p:Addr}{us:List V}{a:List PV}{n:Bool}(l:cU X.K B p us)(r:aJ X.K Hi n a B us):jw X Hi (Itt X.K p) (El B) a n where
 go:=λH O i ok hi=>⟨us,us[i]'(by rw[<- r.len];exact hi),(ok.2.trans af).tup l,by simp⟩
 stop:=λH O ok=>⟨us,(ok.2.trans af).tup l,by rw[r.len];exact Ky _⟩
 yld:=λH O i u H' ok hi y=>by obtain⟨e,y⟩:=y;subst e;obtain⟨x,c,b⟩:=r.at' (y us ((ok.2.trans af).tup l));exact⟨aE.refl _,x,c,b.mono ok.2⟩
theorem HG{B:Hp}{p:Addr}{us:List V}{a:List PV}{n m:Bool}(l:bJ X.K B p us)(r:aJ X.K Hi m a B us)(d:imms a=true):jw X Hi (IA X.K p) (OkB B) a n where
 go:=λH O i ok hi=>⟨us,us[i]'(by rw[<- r.len];exact hi),ok.2.seq l,by simp⟩
 stop:=λH O ok=>⟨us,ok.2.seq l,by rw[r.len];exact Ky _⟩
 yld:=λH O i u H' ok hi y=>by obtain⟨e,y⟩:=y;subst e;have f:aJ X.K Hi n a (aS H' O) us:=aJ.imm d ok.1.tups (r.mono ok.2);obtain⟨x,c,b⟩:=f.at' (y us (ok.2.seq l));exact⟨aE.refl _,x,c,b⟩
theorem HF{B:Hp}{p:Addr}{us:List V}{a:List PV}{n m:Bool}(l:cU X.K B p us)(r:aJ X.K Hi m a B us)(d:imms a=true):jw X Hi (Itt X.K p) (OkB B) a n where
 go:=λH O i ok hi=>⟨us,us[i]'(by rw[<- r.len];exact hi),ok.2.tup l,by simp⟩
 stop:=λH O ok=>⟨us,ok.2.tup l,by rw[r.len];exact Ky _⟩
 yld:=λH O i u H' ok hi y=>by obtain⟨e,y⟩:=y;subst e;have f:aJ X.K Hi n a (aS H' O) us:=aJ.imm d ok.1.tups (r.mono ok.2);obtain⟨x,c,b⟩:=f.at' (y us (ok.2.tup l));exact⟨aE.refl _,x,c,b⟩
theorem bn(z:Str):(signs z).length=z.cps.size:=by unfold signs;rw[Kr,LZ]
theorem signs_at{i:Nat}(h:z.cps[i]? =some c):(signs z)[i]? =some (.str ⟨#[c]⟩):=by unfold signs;rw[LA,Mz,h];rfl
theorem Js{B:Hp}{z:Str}{n:Bool}:jw X Hi (Kn z) (El B) (signs z) n where
 go:=λH O i ok hi=>by rw[bn]at hi;exact hi
 stop:=λH O ok=>by show(signs z).length=z.cps.size;exact bn z
 yld:=λH O i u H' ok hi y=>by obtain⟨e,c,a,rfl⟩:=y;subst e;exact⟨aE.refl _,_,signs_at a,Rp.str.mpr rfl⟩
theorem ve{B:Hp}{b:Int}{k:Nat}{n:Bool}:jw X Hi (Em b k) (El B) ((List.range k).map λi=>.int (b+(i:Nat))) n where
 go:=λH O i ok a=>by show i<k;simpa using a
 stop:=λH O ok=>by show k<=_;simp
 yld:=λH O i u H' ok a y=>by
  obtain⟨e,rfl⟩:=y;subst e;have a:i<k:=by simpa using a
  exact⟨aE.refl _,_,by rw[LA,MB a];rfl,Rp.int.mpr rfl⟩
theorem Ao{B:Hp}{b c:Int}{k:Nat}{n:Bool}:jw X Hi (Itc b c k) (El B) ((List.range k).map λi=>.int (b+(i:Nat)*c)) n where
 go:=λH O i ok a=>by show i<k;simpa using a
 stop:=λH O ok=>by show _=k;simp
 yld:=λH O i u H' ok a y=>by
  obtain⟨e,rfl⟩:=y;subst e;have a:i<k:=by simpa using a
  exact⟨aE.refl _,_,by rw[LA,MB a];rfl,Rp.int.mpr rfl⟩
set_option tactic.hygienic true
theorem FY{n:Bool}(g:aK X Hi τ e r)(h:jn r=some (d,n,b)):o7 X Hi τ w e d n b:=by
 intro O f H R c q;cases r with
 |frz v m =>
  cases v with
  |str z =>cases h;refine⟨_,F1 aT,?_⟩;exact g O f H _ c λu H1 s1 r1=>⟨z,r1.str c s1 rfl,q _ _ s1 Js⟩
  |lst a =>cases h;refine⟨_,fg aT,?_⟩;refine g O f H _ c λu H1 s1 r1=> ?_;obtain⟨p,us,rfl,_,l,r⟩:=Rp.lst.mp (show Rp X.K Hi n (.lst d) (aS H1 O) u from r1);exact⟨p,rfl,⟨us,(af).seq l⟩,q _ _ s1 (Ef l (r.mono bR))⟩
  |tup a =>cases h;refine⟨_,zR aT,?_⟩;refine g O f H _ c λu H1 s1 r1=> ?_;obtain⟨p,us,rfl,l,r⟩:=Rp.tup.mp (show Rp X.K Hi n (.tup d) (aS H1 O) u from r1);exact⟨p,rfl,⟨us,(af).tup l⟩,q _ _ s1 (Jr l r)⟩
  |_=>cases h
 |bor v =>
  cases v with
  |lst a =>
   have h:(if imms a then some (a,true,true)else none)=some (d,n,b):=h
   split at h
   ·rename_i i
    cases h;refine⟨_,fg aT,?_⟩;refine g O f H _ c λu H1 s1 r1=> ?_;obtain⟨p,us,rfl,_,l,r⟩:=Rp.lst.mp (show Rp X.K Hi false (.lst d) H1 u from r1);exact⟨p,rfl,⟨us,l⟩,q _ _ s1 (HG l (r.mono bR) i)⟩
   ·cases h
  |tup a =>
   have h:(if imms a then some (a,true,true)else none)=some (d,n,b):=h
   split at h
   ·rename_i i
    cases h;refine⟨_,zR aT,?_⟩;refine g O f H _ c λu H1 s1 r1=> ?_;obtain⟨p,us,rfl,l,r⟩:=Rp.tup.mp (show Rp X.K Hi false (.tup d) H1 u from r1);exact⟨p,rfl,⟨us,l⟩,q _ _ s1 (HF l r i)⟩
   ·cases h
  |_=>cases h
 |owd A a m=>cases h|own a m =>
  cases h;refine⟨_,fg aT,?_⟩;refine g O f H _ c λu H1 s1 r1=> ?_;obtain⟨p,us,rfl,s,o,r⟩:=r1;have x:aS H1 O p=some (.lst us):=by
   unfold aS;rw[LC λz=> ?_]
   ·exact o
   ·obtain⟨y,j,_⟩:=(c.own p z).2
    rw[s]at j;cases j
  exact⟨p,rfl,⟨us,bJ.of o⟩,q _ _ s1 (Ef (bJ.of x) (r.mono (aL bR)))⟩
theorem Fj{ct:Ct}(C:bS S X ct){m:List Expr}{K:List PV}(W:own ct ("range":Str)=true)(n:∀a∈m,isStar a=false)(x:o8 X Hi τ m D)(A:m.length=D.length)(h:kd D=some K) :
  o7 X Hi τ N (.Call (.Name "range" p) m [] pos) K true false:=by
 intro O s H R f q;obtain⟨g,y⟩:=i5 C W;unfold kd at h
 split at h
 ·rename_i o
  cases e:o.val with
  |int j =>
   simp only[e]at h
   split at h
   ·rename_i c
    cases h
    match m,A with
    |[a],_ =>refine⟨_,cD g y tL (aR (n a (by simp))),?_⟩;refine x O s H _ f λus H1 s1 r1=> ?_;obtain⟨u,J,rfl,r,z⟩:=r1;cases z;exact⟨j,by rw[r.int f s1 e],c.1,c.2,q _ _ s1 ve⟩
   ·cases h
  |_=>simp only[e]at h;cases h
 ·rename_i o I
  cases e:o.val with
  |int i =>
   cases l:I.val with
   |int j =>
    simp only[e,l]at h
    split at h
    ·rename_i c
     cases h
     match m,A with
     |[a,b],_ =>
      have U:starEach [a,b] X.env=[(false,eval a X.env),(false,eval b X.env)]:=by rw[aR (n a (by simp)),aR (n b (by simp))];rfl
      refine⟨_,wv g y tL U (aR (n b (by simp))),?_⟩;refine x O s H _ f λus H1 s1 r1=> ?_;obtain⟨u,J,rfl,r,T,E,rfl,v,z⟩:=r1;cases z;exact⟨i,j,by rw[r.int f s1 e,v.int f s1 l],c,q _ _ s1 ve⟩
    ·cases h
   |_=>simp only[e,l]at h;cases h
  |_=>simp only[e]at h;cases h
 ·rename_i o I L
  cases e:o.val with
  |int i =>
   cases l:I.val with
   |int j =>
    cases w:L.val with
    |int k =>
     simp only[e,l,w]at h
     split at h
     ·rename_i c
      cases h
      match m,A with
      |[a,b,d],_ =>refine⟨_,wu g y tL (aR (n a (by simp))) (iX λz hz=>n z (by simp at hz ⊢;rcases hz with rfl|rfl<;>simp)),?_⟩;refine x O s H _ f λus H1 s1 r1=> ?_;obtain⟨u,J,rfl,r,T,E,rfl,v,Y,M,rfl,Q,z⟩:=r1;cases z;exact⟨i,j,k,by rw[r.int f s1 e,v.int f s1 l,Q.int f s1 w],c.1,c.2.1,c.2.2,q _ _ s1 Ao⟩
     ·cases h
    |_=>simp only[e,l,w]at h;cases h
   |_=>simp only[e,l]at h;cases h
  |_=>simp only[e]at h;cases h
 ·cases h
set_option tactic.hygienic false
theorem C5{n:Bool}(R:aY X.K Hi O τ g H)(s:aE H a)(h:Jd r=some (b,n))(e:ae X.K Hi O H a r u):∃p us,u=.ref p/\bJ X.K (aS a O) p us/\aJ X.K Hi n b (aS a O) us:=by
 cases r with
 |frz v m =>
  cases v with
  |lst d =>cases h;obtain⟨p,us,rfl,_,l,r⟩:=Rp.lst.mp (show Rp X.K Hi n (.lst b) (aS a O) u from e);exact⟨p,us,rfl,l,r.mono bR⟩
  |_=>cases h
 |bor v=>cases h|owd q d m=>cases h|own d m =>
  cases h;obtain⟨p,us,rfl,f,j,r⟩:=e;have i:aS a O p=some (.lst us):=by
   unfold aS;rw[LC λz=> ?_]
   ·exact j
   ·obtain⟨o,c,_⟩:=(R.own p z).2
    rw[f]at c;cases c
  exact⟨p,us,rfl,bJ.of i,r.mono (aL bR)⟩
theorem oK{us:List V}{n:Bool}(l:uZ O H)(a:H p=none)(r:aJ X.K Hi n b (aS H O) us):Rp X.K Hi n (.tup b) (aS (L2.upd H p (.tup us)) O) (.ref p):=by
 refine Rp.tup.mpr ⟨p,us,rfl,cU.of ?_,r.mono (aL (aM a _))⟩;unfold aS;rw[LC λz=> ?_]
 ·exact aD
 ·obtain⟨us,e,_⟩:=l p z
  rw[e]at a;cases a
set_option tactic.hygienic true in
theorem Di{ct:Ct}(C:bS Z X ct){n:Bool}(ho:own ct ("enumerate":Str)=true)(x:isStar a=false)(L:aK X Hi τ a Q)(h:jq Q=some (T,n)) :
  o7 X Hi τ (.Tuple Y U D) (.Call (.Name "enumerate" p) [a] [] pos) T n false:=by
 intro O E H R A q;obtain⟨g,M⟩:=i5 C ho;unfold jq at h
 split at h
 ·rename_i z m
  cases h;refine⟨_,zT g M (aB aT aH (aR x)) (aR x),?_⟩;refine L O E H _ A λu H1 s1 r1=>⟨z,by rw[r1.str A s1 rfl],q _ _ s1 ?_⟩;have f:(List.zipWith dc (List.range z.length) (signs z)).length=z.length:=by rw[Mg,bn,LX];exact NC _
  have d:=kZ z;refine⟨λG P i ok hi=> ?_,λG P ok=> ?_,λG P i w G' ok hi y=> ?_⟩
  ·rw[f]at hi
   exact⟨_,(dZ z)[i]'(by omega),rfl,by simp⟩
  ·exact⟨_,rfl,by rw[f,d]⟩
  ·rw[f]at hi
   obtain⟨S,b,rfl,y⟩:=y;have hz:i<z.cps.size:=hi;obtain⟨c,N⟩:∃c,z.cps[i]? =some c:=⟨z.cps[i],by simp[hz]⟩;have s:(dZ z)[i]? =some (.str ⟨#[c]⟩):=by unfold dZ;rw[LA,Mz,N];rfl
   have e:=y _ (.str ⟨#[c]⟩) rfl s;subst e;refine⟨aM b _,dc i (.str ⟨#[c]⟩),by rw[Nb,signs_at N,MB hi],oK ok.1 b (.cons (Rp.int.mpr rfl) (.cons (Rp.str.mpr rfl) .nil))⟩
 ·rename_i j m
  cases h;refine⟨_,zS g M (aB aT aH (aR x)) (aR x),?_⟩;refine L O E H _ A λu H1 s1 r1=> ?_;obtain⟨I,us,rfl,l,r⟩:=Rp.tup.mp (show Rp X.K Hi n (.tup j) (aS H1 O) u from r1);refine⟨I,us,rfl,(af).tup l,q _ _ s1 ?_⟩;have f:(List.zipWith dc (List.range j.length) j).length=j.length:=by rw[Mg,LX];exact NC _
  have d:=r.len;refine⟨λG P i ok hi=> ?_,λG P ok=> ?_,λG P i w G' ok hi y=> ?_⟩
  ·rw[f]at hi
   exact⟨us,us[i]'(by omega),(ok.2.trans af).tup l,by simp⟩
  ·exact⟨us,(ok.2.trans af).tup l,by rw[f,d]⟩
  ·rw[f]at hi
   obtain⟨S,b,rfl,y⟩:=y;have s:us[i]? =some (us[i]'(by omega)):=by simp
   have e:=y us _ ((ok.2.trans af).tup l) s;subst e;obtain⟨J,v,o⟩:=r.at' s;exact⟨aM b _,dc i J,by rw[Nb,v,MB hi],oK ok.1 b (.cons (Rp.int.mpr rfl) (.cons (o.mono ok.2) .nil))⟩
 ·split at h
  ·rename_i j m W
   cases h;refine⟨_,qN g M (aB aT aH (aR x)) (aR x),?_⟩;refine L O E H _ A λu H1 s1 r1=> ?_;obtain⟨I,us,rfl,l,r⟩:=C5 A s1 W r1;refine⟨I,us,rfl,(af).seq l,q _ _ s1 ?_⟩;have f:(List.zipWith dc (List.range j.length) j).length=j.length:=by rw[Mg,LX];exact NC _
   have d:=r.len;refine⟨λG P i ok hi=> ?_,λG P ok=> ?_,λG P i w G' ok hi y=> ?_⟩
   ·rw[f]at hi
    exact⟨us,us[i]'(by omega),(ok.2.trans af).seq l,by simp⟩
   ·exact⟨us,(ok.2.trans af).seq l,by rw[f,d]⟩
   ·rw[f]at hi
    obtain⟨S,b,rfl,y⟩:=y;have s:us[i]? =some (us[i]'(by omega)):=by simp
    have e:=y us _ ((ok.2.trans af).seq l) s;subst e;obtain⟨J,v,o⟩:=r.at' s;exact⟨aM b _,dc i J,by rw[Nb,v,MB hi],oK ok.1 b (.cons (Rp.int.mpr rfl) (.cons (o.mono ok.2) .nil))⟩
  ·cases h
theorem jM{N:List Str}:∀{b:List Str}{a:List Nat},slots N b=some a->b.length=a.length
 |[],a,h=>by cases h;rfl|x::b,a,h=>by
  unfold slots at h;cases e:slot N x with
  |none=>rw[e]at h;cases h|some i =>
   rw[e]at h;cases c:slots N b with
   |none=>simp[c]at h|some d =>simp[c]at h;subst h;simp[jM c]
theorem py{N:List Str}:∀{b:List Str}{a:List Nat}{j i:Nat},slots N b=some a->a[j]? =some i->∃x,b[j]? =some x/\N[i]? =some x
 |[],a,j,i,h,hj=>by cases h;simp at hj|x::b,a,j,i,h,hj=>by
  unfold slots at h;cases e:slot N x with
  |none=>rw[e]at h;cases h|some d =>
   rw[e]at h;cases c:slots N b with
   |none=>simp[c]at h|some f =>
    simp[c]at h;subst h;cases j with
    |zero =>simp at hj;subst hj;exact⟨x,by simp,ff e⟩
    |succ j=>simpa using py c (by simpa using hj)
theorem lB{ct:Ct}{t:Str}{scope:Scope}(h:xE ct t scope=true):scope.kind=.function/\(∀y∈scope.names,y.2=.cell->scope.names.lookup y.1=some .cell)/\(∀y∈scope.names,y.2=.local->scope.names.lookup y.1=some .local) /\ (∀y∈scope.names,y.2=.free->(ct.S.lookup y.1=some .cell\/ct.S.lookup y.1=some .free))/\(t::frees scope).Nodup/\(scope.names.lookup t=some .local\/scope.names.lookup t=some .cell)/\∀x∈frees scope,scope.names.lookup x=some .free:=by
 unfold xE at h;simp only[Kt]at h;obtain⟨⟨⟨⟨⟨⟨f,a⟩,d⟩,i⟩,g⟩,b⟩,c⟩:=h;refine⟨LW f,λy hy e=> ?_,λy hy e=> ?_,λy hy e=> ?_,LJ g,by simpa using b,λx hx=> ?_⟩
 ·have:=LL.mp a y hy
  rw[e]at this
  simpa using this
 ·have:=LL.mp d y hy
  rw[e]at this
  simpa using this
 ·have:=LL.mp i y hy
  rw[e]at this
  simpa using this
 ·have:=LL.mp c x hx
  simpa using this
theorem iP{a:Env}:∀{names:List (Str×NameKind)}{x:Str},names.lookup x=some .cell -> (names.map λ(n,k)=>if(k==NameKind.free&&a.scope.kind== .function&&a.kindOf n==some .cell)then(n,NameKind.cell)else(n,k)).lookup x=some .cell
 |[],_,h=>by simp at h|(n,k)::r,x,h=>by
  have d:= @iP a r x;show List.lookup x ((if(k==NameKind.free&&a.scope.kind== .function&&a.kindOf n==some .cell)=true then(n,NameKind.cell)else(n,k))::_)=_;cases b:x==n with
  |true =>simp only[Lm,b]at h;cases h;rw[LC (by simp)];simp only[Lm,b]
  |false =>
   simp only[Lm,b]at h
   by_cases c:(k==NameKind.free&&a.scope.kind== .function&&a.kindOf n==some .cell)=true;rw[K5 c];simp only[Lm,b];exact d h;rw[LC c];simp only[Lm,b];exact d h
theorem iL{scope:Scope}{t:Str}(h:scope.names.lookup t=some .local\/scope.names.lookup t=some .cell):L2.Loc (bM X e scope d c f b a).env.scope t:=by
 rcases h with h|h
 ·exact .inl (lookup_relabel_local h)
 ·exact .inr (iP h)
theorem kS{scope:Scope}{t:Str}(h:scope.names.lookup t=some .local\/scope.names.lookup t=some .cell):(bM X e scope d c f b a).fn t=true\/(bM X e scope d c f b a).env.scope.names.lookup t=some .local:=by
 rcases h with h|h
 ·exact .inr (lookup_relabel_local h)
 ·left
  show(scope.names.lookup t==some .cell)=true;rw[h];rfl
set_option tactic.hygienic true in
theorem bS.blk{cd:Nat->List PV->Option PV}{ct:Ct}(C:bS cd X ct){t:Str}{scope:Scope}(h:xE ct t scope=true)(Cf:Addr)(s2:Shared)(H2:Hp)(fp:List Addr)(cl:List (Str×Addr)):bS cd (bM X (t::frees scope) scope Cf s2 H2 fp cl) (blk ct t scope):=by
 obtain⟨h1,h2,h3,h4,h5,h6,h7⟩:=lB h;refine⟨rfl,h5,?_,h1,C.calm,C.glob,C.bl,C.fns,Lq,C.un⟩;show(scope.names.map fun(n,k)=>if(k==NameKind.free&&X.env.scope.kind== .function&&X.env.kindOf n==some .cell)then(n,NameKind.cell)else(n,k))=mT ct.S scope.names;unfold mT;refine Lr fun y hy=> ?_;obtain⟨n,k⟩:=y;have e:(X.env.scope.kind==ScopeKind.function)=true:=by rw[C.kind];rfl
 have e2:X.env.kindOf n=ct.S.lookup n:=by
  show X.env.scope.names.lookup n=_;rw[C.S]
 dsimp only;rw[e,e2]
theorem fk{ct:Ct}{t:Str}{scope:Scope}(h:ii ct t a scope=true):scope.kind=.function/\(∀y∈scope.names,y.2=.cell->scope.names.lookup y.1=some .cell)/\(∀y∈scope.names,y.2=.local->scope.names.lookup y.1=some .local) /\ (∀y∈scope.names,y.2=.free->(ct.S.lookup y.1=some .cell\/ct.S.lookup y.1=some .free))/\(t::a::frees scope).Nodup/\(scope.names.lookup t=some .local\/scope.names.lookup t=some .cell)/\(scope.names.lookup a=some .local\/scope.names.lookup a=some .cell)/\∀x∈frees scope,scope.names.lookup x=some .free:=by
 unfold ii at h;simp only[Kt]at h;obtain⟨⟨⟨⟨⟨⟨⟨g,b⟩,f⟩,l⟩,i⟩,c⟩,j⟩,d⟩:=h;refine⟨LW g,λy hy e=> ?_,λy hy e=> ?_,λy hy e=> ?_,LJ i,by simpa using c,by simpa using j,λx hx=> ?_⟩
 ·have:=LL.mp b y hy
  rw[e]at this
  simpa using this
 ·have:=LL.mp f y hy
  rw[e]at this
  simpa using this
 ·have:=LL.mp l y hy
  rw[e]at this
  simpa using this
 ·have:=LL.mp d x hx
  simpa using this
set_option tactic.hygienic true in
theorem bS.blk2{cd:Nat->List PV->Option PV}{ct:Ct}(C:bS cd X ct){t t2:Str}{scope:Scope}(h:ii ct t t2 scope=true)(Cf:Addr)(s2:Shared)(H2:Hp)(fp:List Addr)(cl:List (Str×Addr)):bS cd (bM X (t::t2::frees scope) scope Cf s2 H2 fp cl) (blk2 ct t t2 scope):=by
 obtain⟨h1,h2,h3,h4,h5,h6,h8,h7⟩:=fk h;refine⟨rfl,h5,?_,h1,C.calm,C.glob,C.bl,C.fns,Lq,C.un⟩;show(scope.names.map fun(n,k)=>if(k==NameKind.free&&X.env.scope.kind== .function&&X.env.kindOf n==some .cell)then(n,NameKind.cell)else(n,k))=mT ct.S scope.names;unfold mT;refine Lr fun y hy=> ?_;obtain⟨n,k⟩:=y;have e:(X.env.scope.kind==ScopeKind.function)=true:=by rw[C.kind];rfl
 have e2:X.env.kindOf n=ct.S.lookup n:=by
  show X.env.scope.names.lookup n=_;rw[C.S]
 dsimp only;rw[e,e2]
theorem iM{f:Nat->List PV->Option PV}{ct:Ct}(C:bS f X ct){scope:Scope}:∀{b:List Str}{a:List Nat},slots ct.N b=some a->(∀x∈b,scope.names.lookup x=some .free/\(ct.S.lookup x=some .cell\/ct.S.lookup x=some .free))->ba X scope b (a.map some)
 |[],a,h,_=>by cases h;exact True.intro|x::b,a,h,k=>by
  unfold slots at h;cases e:slot ct.N x with
  |none=>rw[e]at h;cases h|some i =>
   rw[e]at h;cases c:slots ct.N b with
   |none=>simp[c]at h|some j =>simp[c]at h;subst h;obtain⟨d,g⟩:=k x K6;exact⟨⟨by rw[C.N];exact ff e,d,by rw[C.S];exact g⟩,iM C c λy hy=>k y (Kx _ hy)⟩
theorem zn{t:TV}(h:t.ob=some x):t≠.un:=λe=>by subst e;cases h
theorem aY.block{K:W.Frag}{s:L2.St}{c:List Nat}{n:Bool}(R:aY K Hi O τ s H)(Y:c.Nodup)(r:Rp K Hi n x (aS H O) u) :
  aY K Hi O (.frz x n::c.map λi=>τ.getD i .un) (some u::bX (c.map some) s) H:=by
 have d:∀(j:Nat)v,(c.map λi=>τ.getD i .un)[j]? =some v->v≠.un->∃i,c[j]? =some i/\τ[i]? =some v:=λj v e hv=>by
  rw[LA]at e;cases N:c[j]? with
  |none=>rw[N]at e;cases e|some i =>
   rw[N]at e;refine⟨i,rfl,?_⟩;have e:τ.getD i .un=v:=LR e;rw[Kz]at e;cases L:τ[i]? with
   |none=>rw[L]at e;exact absurd e.symm hv|some w=>rw[L]at e;exact L5 some e
 have f:∀j i,c[j]? =some i->(bX (c.map some) s)[j]? =some ((s[i]?).join):=λj i e=>by unfold bX;rw[LA,LA,e];rfl
 refine⟨R.same,R.own,λj v m e=> ?_,λj t bd ys m e ht=> ?_,λa b t t' x1 y1 l q ht p ht' h g=> ?_⟩
 ·cases j with
  |zero =>obtain⟨rfl,rfl⟩:=e;exact⟨u,by simp,r⟩
  |succ j =>obtain⟨i,h,g⟩:=d j _ (by simpa using e) (by simp);obtain⟨w,E,C⟩:=R.frz i v m g;exact⟨w,by rw[Mk,f j i h,E];rfl,C⟩
 ·cases j with
  |zero =>simp at e;subst e;cases ht
  |succ j =>obtain⟨i,h,g⟩:=d j _ (by simpa using e) (zn ht);obtain⟨l,us,o,E,C⟩:=R.obs i t bd ys m g ht;exact⟨l,us,o,by rw[Mk,f j i h,E];rfl,C⟩
 ·cases a with
  |zero =>simp at q;subst q;cases ht
  |succ a =>
   cases b with
   |zero =>simp at p;subst p;cases ht'
   |succ b =>
    obtain⟨i,z,Q⟩:=d a _ (by simpa using q) (zn ht);obtain⟨j,y,J⟩:=d b _ (by simpa using p) (zn ht');rw[Mk,f a i z]at h;rw[Mk,f b j y]at g;obtain⟨b1,D,S⟩:=x1;obtain⟨T,A,U⟩:=y1;obtain⟨l1,a1,o1,M,_⟩:=R.obs i t b1 D S Q ht;obtain⟨l2,a0,o2,I,_⟩:=R.obs j t' T A U J ht';rw[M]at h;rw[I]at g;cases h;cases g;have e:=R.dst i j t t' _ _ l Q ht J ht' M I;subst e
    congr 1
    have Z:=(Kw.mp z).1;have hb:=(Kw.mp y).1;have q:c[a]=i:=by rw[Kv Z]at z;exact LR z
    have p:c[b]=i:=by rw[Kv hb]at y;exact LR y
    exact(List.getElem_inj Y).mp (q.trans p.symm)
theorem iD{N:List Str}:∀{b:List Str}{a:List Nat},slots N b=some a->b.Nodup->a.Nodup
 |[],a,h,_=>by cases h;exact List.nodup_nil|x::b,a,h,nd=>by
  unfold slots at h;cases e:slot N x with
  |none=>rw[e]at h;cases h|some i =>
   rw[e]at h;cases c:slots N b with
   |none=>simp[c]at h|some j =>simp[c]at h;subst h;refine Lo.mpr ⟨λhm=> ?_,iD c (Lo.mp nd).2⟩;obtain⟨k,g⟩:=List.mem_iff_getElem?.mp hm;obtain⟨y,f,d⟩:=py c g;rw[ff e]at d;cases d;exact(Lo.mp nd).1 (K9 f)
set_option tactic.hygienic true in
theorem aY.hide{K:W.Frag}{us:List V}(R:aY K Hi O τ j H)(s:aE H a)(h:H D=none)(A:a D=some (.lst us)):aY K Hi (D::O) τ j a :=by
 have m:aE (aS H O) (aS a (D::O)):=λb o e=>by
  unfold aS at e ⊢
  split at e;cases e
  ·rename_i z
   have p:=aG e h;rw[LC (by simp[p,z])];exact s b o e
 refine⟨R.same.trans s,λl g=> ?_,λi v n e=> ?_,λi t b xs n e ht=> ?_,R.dst⟩
 ·rcases LB.mp g with rfl|g
  ·exact⟨R.same.free h,_,A,.lst⟩
  ·obtain⟨q,c,e,x⟩:=R.own l g
   exact⟨q,c,s _ _ e,x⟩
 ·obtain⟨u,f,d⟩:=R.frz i v n e
  exact⟨u,f,d.mono m⟩
 ·obtain⟨l,c,o,f,d,y,r,w⟩:=R.obs i t b xs n e ht
  exact⟨l,c,o,f,Kx _ d,s _ _ y,r,w.mono m⟩
theorem oJ(h:cK e=false):∀x,foldedSetIterable e d x=pure x:=by
 intro x;cases e with
 |Set a b c=>cases h|_=>rfl
def KJ(d:Nat->List PV->Option PV)(c:Eo)(a:IE)(n:Bool)(e:En):PV->Option (Option (PV×Bool)):=λx=>(jV d c (.frz x (n||imm x)::e)).bind λb=>if b then(aQ d a (.frz x (n||imm x)::e)).bind λr=>r.keep.map some else some none
set_option tactic.hygienic true in
theorem AI{scope:Scope}{n:Bool}
  (b4:o7 X Hi τ tg T f n b) (hz:f.length<=LN) (a':∀(Cf:Addr)(s2:Shared)(H2:Hp)(fp:List Addr)(cl:List (Str×Addr)),bS M (bM X Nn scope Cf s2 H2 fp cl) W)
  (a3:∀(X' :Cx)(J :En)(k:Bool),bS M X' W->jV M I J =some k->∃tt,xk X' a8 tt/\∀(O:List Addr)(E:L2.St)(H:Hp)(Q:Bool->Hp->Prop),aY X'.K Hi O J E H->(∀H',aE H H' ->Q k H')->tt E H Q)
  (a7:∀(X' :Cx)(J :En)(r:RV),bS M X' W->aQ M p J =some r->aK X' Hi J a9 r)
  (a2:∀(O:List Addr)(E:L2.St)(D:Addr)(x:PV)(r0:Option (PV×Bool))(u:V)(N :Hp)(Cf:Addr)(s2:Shared)(H2:Hp)(fp:List Addr)(cl:List (Str×Addr)),CF x=some r0->aY X.K Hi (D::O) τ E N ->Rp X.K Hi n x (aS N (D::O)) u -> ∃(h:En)(Z:L2.St)(g:TG),((jV M I h).bind λt=>if t then(aQ M p h).bind λr=>r.keep.map some else some none)=some r0/\aY X.K Hi (D::O) h Z N /\PG (bM X Nn scope Cf s2 H2 fp cl) tg g /\ ∀K:L2.St->Hp->Prop,K Z N ->g u (bX U E) N λσ2 H3=>(σ2.length=Nn.length/\∀(j:Nat)(v:V),(bX U E)[j]? =some (some v)->σ2[j]? =some (some v))/\K σ2 H3)
  (a5:bz CF f=some (VS,NN)) (O:List Addr) (E:L2.St) (H:Hp) (Q:VK) (R:aY X.K Hi O τ E H) (q:∀u H',aE H H' ->ae X.K Hi O H H' (.own VS NN) u->Q u H'):FG X Nn U scope tg a8 a9 (λσ H R=>WI X tg T E H R) E H Q:=by
 refine b4 O E H _ R λJ H1 s1 En=> ?_;intro D hD;have ok:∀(G:Hp)(C:List V),aE H1 G->G D=some (.lst C)->(if b=true then OkB H1 else El (aS H1 O)) G (D::O):=by
  intro G C L Y;have ls:uZ (D::O) G:=λl hl=>by
   rcases LB.mp hl with rfl|hl
   ·exact⟨_,Y,.lst⟩
   ·obtain⟨us,e,mo⟩:=(R.own l hl).2
    exact⟨us,L _ _ (s1 _ _ e),mo⟩
  cases b with
  |true=>exact⟨ls,L⟩|false =>
   refine⟨ls,λc o e=> ?_⟩;unfold aS at e ⊢
   split at e;cases e
   ·rename_i nb
    have ne:c≠D:=aG e hD;rw[LC (by simp[ne,nb])];exact L c o e
 refine⟨λi m C G=>m=f.length-i/\i<=f.length/\aE H1 G/\G D=some (.lst C)/\C.length<=i/\∃dn ws mm,bz CF (f.drop i)=some (ws,mm)/\VS=dn++ws/\(NN=true->mm=true)/\aJ X.K Hi NN dn (aS G (D::O)) C,⟨f.length,by simp,LY _,aM hD _,aD,Ky _,[],VS,NN,a5,rfl,id,.nil⟩,?_⟩
 rintro i m C G ⟨rfl,hi,L,Y,b6,dn,ws,mm,a,hv,hn,hr⟩
 by_cases s:i<f.length
 ·refine .inr ⟨En.go G (D::O) i (ok G C L Y) s,λu N y=> ?_⟩
  obtain⟨A,x,hx,rx⟩:=En.yld G (D::O) i u N (ok G C L Y) s y;intro Cf s2 H2 fp cl;have C' :=a' Cf s2 H2 fp cl;have hd:f.drop i=x::f.drop (i+1):=by rw[NJ s];rw[Kv s]at hx;rw[LR hx]
  rw[hd]at a;unfold bz at a;cases d:CF x with
  |none=>rw[d]at a;cases a|some r0 =>
   rw[d]at a;cases S:bz CF (f.drop (i+1))with
   |none=>rw[S]at a;cases a|some w =>
    obtain⟨a6,a4⟩:=w;rw[S]at a;have a1 :N D=some (.lst C):=A _ _ Y;obtain⟨h,Z,g,d,RB,pg,hg⟩:=a2 O E D x r0 u N Cf s2 H2 fp cl d (R.hide (s1.trans (L.trans A)) (s1.free hD) a1) rx;cases a0:jV M I h with
    |none=>rw[a0]at d;cases d|some k =>
     rw[a0]at d;obtain⟨tt,b2,b3⟩:=a3 _ _ _ C' a0;refine⟨g,tt,_,pg,b2,aT,hg _ ?_⟩;refine b3 (D::O) _ N _ RB λG4 s4=> ?_;cases k with
     |false =>rw[LC K0];cases d;cases a;exact⟨f.length-(i+1),by omega,rfl,s,L.trans (A.trans s4),s4 _ _ a1,by omega,dn,ws,mm,S,hv,hn,hr.mono (aL (A.trans s4))⟩
     |true =>
      rw[K5 rfl];cases he:aQ M p h with
      |none=>rw[he]at d;cases d|some r =>
       rw[he]at d;have d:r.keep.map some=some r0:=d;cases hk:r.keep with
       |none=>rw[hk]at d;cases d|some vn =>
        obtain⟨v,nv⟩:=vn;rw[hk]at d;cases d;have a:some (v::a6,nv&&a4)=some (ws,mm):=a;cases a;refine a7 _ _ _ C' he (D::O) _ G4 _ (RB.ext s4) λw G5 s5 r5=> ?_;have kp:=r5.keep (RB.ext s4) s5 hk;have b0:=s5 _ _ (s4 _ _ a1);have sT:=L.trans (A.trans (s4.trans s5));have b5 :f.length<=16777216:=hz;refine⟨b0,by rw[dO];omega,f.length-(i+1),by omega,rfl,s,sT.upd hD,aD,by rw[K7];simp;omega,dn++[v],a6,a4,S,by rw[hv];simp,λz=> ?_,?_⟩
        ·have:=hn z
         rw[Kt]at this;exact this.2
        ·have e:aS (L2.upd G5 D (.lst (C++[w]))) (D::O)=aS G5 (D::O):=by
          funext c
          unfold aS
          split;rfl
          ·rename_i nc
           exact aA λz=>nc (z▸K6)
         rw[e];refine(hr.mono (aL (A.trans (s4.trans s5)))).app (.cons (kp.low λz=> ?_) .nil);have:=hn z;rw[Kt]at this;exact this.1
 ·have e:i=f.length:=by omega
  subst e;rw[List.drop_length]at a;cases a;refine .inl ⟨En.stop G (D::O) (ok G C L Y),q _ _ (s1.trans L) ?_⟩;refine⟨D,C,rfl,s1.free hD,Y,?_⟩;rw[hv,MP];refine hr.mono λc o e=> ?_;unfold aS at e;unfold aS del
  split at e;cases e
  ·rename_i nc
   have n1:c≠D:=λz=>nc (z▸K6);have n2:c∉O:=λz=>nc (Kx _ z);rw[LC n2,LC n1];exact e
theorem DE{o:Nat->List PV->Option PV}{ct:Ct}(C:bS o X ct){t:Str}{elt:Expr}{ifs:List Expr}{scope:Scope}{n:Bool}
  (h:xE ct t scope=true) (E:slots ct.N (frees scope)=some a) (W:cK d=false) (J:o7 X Hi τ (.Name t M) d L n b) (hz:L.length<=LN)
  (s:∀(m :Cx)(c :En)(k:Bool),bS o m (blk ct t scope)->jV o g c =some k->∃Z,xk m ifs Z/\∀(O:List Addr)(f:L2.St)(H:Hp)(Q:Bool->Hp->Prop),aY m.K Hi O c f H->(∀l,aE H l ->Q k l)->Z f H Q)
  (q:∀(m :Cx)(c :En)(r:RV),bS o m (blk ct t scope)->aQ o j c =some r->aK m Hi c elt r)
  (v:bz (KJ o g j n (a.map λi=>τ.getD i .un)) L=some (VS,NN)):ba X scope (t::frees scope) (none::a.map some)/\eE X.env.scope scope=true /\ ∀(O:List Addr)(f:L2.St)(H:Hp)(Q:VK),aY X.K Hi O τ f H->(∀u l,aE H l ->ae X.K Hi O H l (.own VS NN) u->Q u l)->FG X (t::frees scope) (none::a.map some) scope (.Name t M) ifs elt (λσ H R=>WI X (.Name t M) d f H R) f H Q:=by
 obtain⟨h1,h2,h3,T,Y,h6,U⟩:=lB h;have p:=λx hx=>Le (U x hx);have w:=iM C E λx hx=>⟨U x hx,T _ (p x hx) rfl⟩;have I:eE X.env.scope scope=true:=by
  unfold eE;rw[LL];intro y hy;rw[C.S]
  by_cases e:y.2=.free
  ·rcases T y hy e with z|z<;>simp[e,z]
  ·simp[e]
 have A:=jM E;refine⟨w,I,AI J hz (C.blk h) s q (λO f D x r0 u G' Cf s2 H2 fp cl hf R rx=> ?_) v⟩;exact⟨_,some u::bX (a.map some) f,mr 0,hf,R.block (iD E (Lo.mp Y).2) rx.up,av Y rfl (iL h6) (kS h6),λK k=>⟨rm (by simp[A]),k⟩⟩
theorem aY.consF{K:W.Frag}{n:Bool}(R:aY K Hi O τ f H)(r:Rp K Hi n x (aS H O) u):aY K Hi O (.frz x n::τ) (some u::f) H:=by
 refine⟨R.same,R.own,λj v m e=> ?_,λj t bd ys m e ht=> ?_,λa b t t' x1 y1 l e1 ht e2 ht' h1 h2=> ?_⟩
 ·cases j with
  |zero =>obtain⟨rfl,rfl⟩:=e;exact⟨u,by simp,r⟩
  |succ j =>obtain⟨w,c,d⟩:=R.frz j v m (by simpa using e);exact⟨w,by simpa using c,d⟩
 ·cases j with
  |zero =>simp at e;subst e;cases ht
  |succ j =>obtain⟨l,us,o,c,d⟩:=R.obs j t bd ys m (by simpa using e) ht;exact⟨l,us,o,by simpa using c,d⟩
 ·cases a with
  |zero =>simp at e1;subst e1;cases ht
  |succ a =>
   cases b with
   |zero =>simp at e2;subst e2;cases ht'
   |succ b=>rw[R.dst a b t t' x1 y1 l (by simpa using e1) ht (by simpa using e2) ht' (by simpa using h1) (by simpa using h2)]
theorem nB{b:List Str}(h:r.length+2=b.length) :
  (((bX (none::none::r) a).set 0 (some x)).set 1 (some y)).length=b.length/\∀(j:Nat)(v:V),(bX (none::none::r) a)[j]? =some (some v)->(((bX (none::none::r) a).set 0 (some x)).set 1 (some y))[j]? =some (some v):=by
 refine⟨by rw[Lk,Lk];simp[bX,h],λj v e=> ?_⟩;cases j with
 |zero=>simp[bX]at e|succ j =>
  cases j with
  |zero=>simp[bX]at e|succ j=>simpa [bX]using e
def Ay(e:Nat->List PV->Option PV)(d:Eo)(c:IE)(n:Bool)(f:En):PV->Option (Option (PV×Bool)):=λx=>(iV x).bind λ(a,b)=>(jV e d (.frz a (n||imm a)::.frz b (n||imm b)::f)).bind λt=>if t then(aQ e c (.frz a (n||imm a)::.frz b (n||imm b)::f)).bind λr=>r.keep.map some else some none
theorem AH{s:Nat->List PV->Option PV}{ct:Ct}(C:bS s X ct){t:Str}{m o:Pos}{elt:Expr}{ifs:List Expr}{scope:Scope}{n:Bool}
  (h:ii ct t f scope=true) (T:slots ct.N (frees scope)=some a) (a0:cK d=false) (Z:o7 X Hi τ (.Tuple [.Name t tp,.Name f m] U o) d xs n b) (hz:xs.length<=LN)
  (E:∀(q :Cx)(c :En)(k:Bool),bS s q (blk2 ct t f scope)->jV s j c =some k->∃tt,xk q ifs tt/\∀(O:List Addr)(g:L2.St)(H:Hp)(Q:Bool->Hp->Prop),aY q.K Hi O c g H->(∀p,aE H p ->Q k p)->tt g H Q)
  (A:∀(q :Cx)(c :En)(r:RV),bS s q (blk2 ct t f scope)->aQ s l c =some r->aK q Hi c elt r)
  (I:bz (Ay s j l n (a.map λi=>τ.getD i .un)) xs=some (VS,NN)):ba X scope (t::f::frees scope) (none::none::a.map some)/\eE X.env.scope scope=true /\ ∀(O:List Addr)(g:L2.St)(H:Hp)(Q:VK),aY X.K Hi O τ g H->(∀u p,aE H p ->ae X.K Hi O H p (.own VS NN) u->Q u p)->FG X (t::f::frees scope) (none::none::a.map some) scope (.Tuple [.Name t tp,.Name f m] U o) ifs elt (λσ H R=>WI X (.Tuple [.Name t tp,.Name f m] U o) d g H R) g H Q:=by
 obtain⟨h1,h2,h3,h4,Y,h6,h8,h7⟩:=fk h;have v:=λx hx=>Le (h7 x hx);have J:=iM C T λx hx=>⟨h7 x hx,h4 _ (v x hx) rfl⟩;have W:eE X.env.scope scope=true:=by
  unfold eE;rw[LL];intro y hy;rw[C.S]
  by_cases e:y.2=.free
  ·rcases h4 y hy e with z|z<;>simp[e,z]
  ·simp[e]
 have L:=jM T;refine⟨J,W,AI Z hz (C.blk2 h) E A (λO g D x r0 u G' Cf s2 H2 fp cl hf R rx=> ?_) I⟩;unfold Ay at hf;obtain⟨x1,x2,rfl⟩:∃x1 x2,x=.tup [x1,x2]:=by
  cases M:iV x with
  |none=>rw[M]at hf;cases hf|some w =>
   unfold iV at M
   split at M;exact⟨_,_,rfl⟩;cases M
 obtain⟨pa,us,rfl,lt,rt⟩:=Rp.tup.mp rx;obtain⟨u1,a2,rfl,ra,rt⟩:=rt;obtain⟨u2,a1,rfl,rb,rt⟩:=rt;subst rt
 exact⟨_,some u1::some u2::bX (a.map some) g,_,hf,(R.block (iD T (Lo.mp (Lo.mp Y).2).2) rb.up).consF ra.up,kq (C.blk2 h Cf s2 H2 fp cl).calm (bq (av Y rfl (iL h6) (kS h6)) (bq (av Y rfl (iL h8) (kS h8)) iS rfl) rfl) rfl rfl,λK k=>⟨pa,_,rfl,(af).tup lt,rfl,u1,_,rfl,u2,_,rfl,rfl,⟨nB (by simp[L]),k⟩⟩⟩
theorem Ci{t:TE}(h:PE X e t):PE X e (λσ H Q=>t σ H λv H' =>∃a o kvs,H' a=some (.frz o (.dK kvs))/\NF X a/\Q v (L2.upd H' a (.dK kvs))):=by intro pins s σ H Q I hr;refine am (h pins s σ H _ I hr) λu s1 q=> ?_;obtain⟨v,H',I',rv,a,o,kvs,ha,nf,q⟩:=q;exact⟨v,_,I'.unknown nf ha,rv,q⟩
set_option tactic.hygienic true in
theorem AG(h:xD d=some r):∃a b n c,d=.frz (.dK a b) n/\a.length<=LN/\BX a b=some c/\r=.own (c.map λq=>.tup [.int q.2,.int q.1]) true:=by
 unfold xD at h
 split at h
 ·split at h
  ·rename_i a b n f
   cases e:BX a b with
   |none=>rw[e]at h;cases h|some c=>rw[e]at h;cases h;exact⟨_,_,_,_,rfl,f,e,rfl⟩
  ·cases h
 ·cases h
theorem u9{n:Bool}:∀{b:List ah}{a:List PV}{c:List (Int×Int)}{G:Hp}{us:List V},BX b a=some c->aJ X.K Hi n a G us->b.zip us=c.map (λq=>(Sum.inl q.1,V.int q.2))/\c.length=b.length
 |[],a,c,G,us,h,r=>by
  cases a with
  |nil=>cases h;exact⟨rfl,rfl⟩|cons v a=>cases h
 |k::b,a,c,G,us,h,r=>by
  cases a with
  |nil=>cases k<;>cases h|cons v a =>
   cases k with
   |inr z=>cases v<;>cases h|inl k =>
    cases v with
    |int v =>
     have h:(BX b a).map ((k,v)::·)=some c:=h;cases e:BX b a with
     |none=>rw[e]at h;cases h|some m =>rw[e]at h;cases h;obtain⟨u,l,rfl,f,j⟩:=r;obtain⟨i,g⟩:=u9 e j;have d:=Rp.int.mp f;subst d;exact⟨by rw[Mq,i];rfl,by simp[g]⟩
    |_=>cases h
theorem CK{K:W.Frag}{G:Hp}{O:List Addr}{a b:Int}(c:∀l∈O,∃o,G l=some o/\Mo o):aY K (λ_=>none) O [.frz (.int a) true,.frz (.int b) true] [some (.int a),some (.int b)] G:=by
 refine⟨λ_ _ e=>(by cases e),λl hl=>⟨rfl,c l hl⟩,λj v m e=> ?_,λj t bd ys m e ht=> ?_,λi j t t' x y l e1 ht=> ?_⟩
 ·match j,e with
  |0,e=>cases e;exact⟨_,rfl,Rp.int.mpr rfl⟩|1,e=>cases e;exact⟨_,rfl,Rp.int.mpr rfl⟩|j+2,e=>simp at e
 ·match j,e with
  |0,e=>cases e;cases ht|1,e=>cases e;cases ht|j+2,e=>simp at e
 ·match i,e1 with
  |0,e=>cases e;cases ht|1,e=>cases e;cases ht|j+2,e=>simp at e
theorem mI{G s :Hp}{O:List Addr}{p:Addr}{A:Obj}{l:List (ah×V)}(v:G p=some (.frz A (.dK l))):∀{j:List (Int×Int)}{i:List V},aJ X.K Hi true (j.map λq=>PV.tup [.int q.2,.int q.1]) (aS G O) i->(∀c o,aS G O c=some o->c≠p->s c=some o)->aJ X.K Hi true (j.map λq=>PV.tup [.int q.2,.int q.1]) s i
 |[],i,h,_=>h|q::j,i,h,m=>by
  rw[K8]at h ⊢;obtain⟨u,r,rfl,H,w⟩:=h;obtain⟨a,us,rfl,b,f⟩:=Rp.tup.mp H;refine .cons (Rp.tup.mpr ⟨a,us,rfl,?_,?_⟩) (mI v w m)
  ·have n:∀o,aS G O a=some o->(∀d g,o≠.frz d (.dK g))->a≠p:=λo e hn z=>by
    subst z;have:=af _ _ e;rw[v]at this;cases this;exact hn _ _ rfl
   rcases b with(b|⟨d,b⟩)|b
   ·exact .inl (.inl (m _ _ b (n _ b λ_ _ z=>by cases z)))
   ·exact .inl (.inr ⟨d,m _ _ b (n _ b λ_ _ z=>by cases z)⟩)
   ·exact .inr b
  ·unfold aJ at f ⊢
   obtain⟨x,t1,rfl,y,f⟩:=f;refine⟨x,t1,rfl,Rp.int.mpr (Rp.int.mp y),?_⟩;obtain⟨E,D,rfl,C,f⟩:=f;exact⟨E,D,rfl,Rp.int.mpr (Rp.int.mp C),f⟩
theorem wL{A B:Hp->Prop}(q:A H):pk a H (λb H4=>if b=true then A H4 else B H4):=gP (B:=B H) q
set_option tactic.hygienic true in
theorem GT{cd:Nat->List PV->Option PV}{ct:Ct}(C:bS cd X ct){k:Nat}{scope:Scope}(h:ii ct x y scope=true)(hf:frees scope=[])
  (v0:dC (blk2 ct x y scope) x=.var 0) (v1:dC (blk2 ct x y scope) y=.var 1) (hsub:plainB d=true) (hline:(ap.endLine==cp.line)=true) (hd:aK X Hi τ d ra) (hr:xD ra=some r) :
  aK X Hi τ (.ListComp (.Tuple [.Name y p4,.Name x p5] k2 p6) [⟨.Tuple [.Name x p1,.Name y p2] k p3,.Call (.Attribute d "items" ap) [] [] cp,[],0⟩] scope lp) r:=by
 obtain⟨ks,vs,nn,qs,rfl,hz,hs,rfl⟩:=AG hr;obtain⟨h1,h2,h3,h4,h5,h6,h8,h7⟩:=fk h;have hc:slots ct.N (frees scope)=some []:=by rw[hf];rfl
 have hsrc:ba X scope (x::y::frees scope) (none::none::[]):=iM C hc λz hz=>⟨h7 z hz,h4 _ (Le (h7 z hz)) rfl⟩;have hfr:eE X.env.scope scope=true:=by
  unfold eE;rw[LL];intro y hy;rw[C.S]
  by_cases e:y.2=.free
  ·rcases h4 y hy e with z|z<;>simp[e,z]
  ·simp[e]
 have hbase:attributeBase d "items" X.env (eval d X.env)=eval d X.env:=by cases d<;>first|rfl|cases hsub
 intro O σ H Q R q;refine we (Ci (vB C.calm (qY aT hbase hline) hsrc h1 h2 h3 hfr (λ_=>rfl))) ?_;refine hd O σ H _ R λu H1 s1 r1=> ?_;have r1:Rp X.K Hi nn (.dK ks vs) (aS H1 O) u:=r1;obtain⟨p,us,rfl,_,hp,hl,rl⟩:=r1;obtain⟨e1,e2⟩:=u9 hs rl;have hpO:p∉O:=λz=>by unfold aS at hp;rw[K5 z]at hp;cases hp
 have hp:=af _ _ hp;rw[e1]at hp;refine⟨p,_,rfl,hp,λo nf D hD=> ?_⟩;have hDp:D≠p:=λe=>by subst e;rw[aD]at hD;cases hD
 have hD1:H1 D=none:=by rw[aA hDp]at hD;exact hD
 have hp' :∀G,aE (L2.upd H1 p (.frz o (.dK (qs.map λq=>(Sum.inl q.1,V.int q.2))))) G->G p=some (.frz o (.dK (qs.map λq=>(Sum.inl q.1,V.int q.2)))):=λG s=>s _ _ aD;have hO:∀G ys,aE (L2.upd H1 p (.frz o (.dK (qs.map λq=>(Sum.inl q.1,V.int q.2))))) G->G D=some (.lst ys)->∀l∈D::O,∃ob,G l=some ob/\Mo ob:=λG ys sG gD l hl=>by
  rcases LB.mp hl with rfl|hl
  ·exact⟨_,gD,.lst⟩
  ·obtain⟨ob,e,mo⟩:=(R.own l hl).2
   exact⟨ob,sG _ _ (by rw[aA (λz:l=p=>hpO (by rw[<- z];exact hl))];exact s1 _ _ e),mo⟩
 refine⟨λi m ys G=>m=qs.length-i/\i<=qs.length/\aE (L2.upd H1 p (.frz o (.dK (qs.map λq=>(Sum.inl q.1,V.int q.2))))) G/\G D=some (.lst ys)/\ys.length=i/\aJ X.K Hi true ((qs.take i).map λq=>PV.tup [.int q.2,.int q.1]) (aS G (D::O)) ys,⟨qs.length,by simp,LY _,aM hD _,aD,rfl,.nil⟩,?_⟩
 rintro j m ys G ⟨rfl,hj,sG,gD,hyl,hv⟩
 by_cases hlt:j<qs.length
 ·refine .inr ⟨⟨hp' G sG,by rw[Kr];exact hlt⟩,λu G' y' => ?_⟩
  obtain⟨a,ha,rfl,y'⟩:=y';have e:=y' (.inl qs[j].1) (.int qs[j].2) (by simp[hlt]);subst e;intro Cf s2 H2 fp cl;have C' :=C.blk2 h Cf s2 H2 fp cl;have sGG:aE G (L2.upd G a (.tup [kV (.inl qs[j].1),.int qs[j].2])):=aM ha _;refine⟨_,_,_,kq C'.calm (bq (av (i:=0) h5 rfl (iL h6) (kS h6)) (bq (av (i:=1) h5 rfl (iL h8) (kS h8)) iS rfl) rfl) rfl rfl,fL,aT,?_⟩;refine⟨a,_,rfl,cU.of aD,rfl,_,_,rfl,_,_,rfl,rfl,⟨nB (by rw[hf];rfl),?_⟩⟩;have eσ:((bX (none::none::[]) σ).set 0 (some (kV (.inl qs[j].1)))).set 1 (some (.int qs[j].2))=[some (.int qs[j].1),some (.int qs[j].2)]:=by simp[bX,kV]
  rw[eσ];have hn0:aQ cd (dC (blk2 ct x y scope) x) [.frz (.int qs[j].1) true,.frz (.int qs[j].2) true]=some (sc (.int qs[j].1)):=by rw[v0];rfl
  have hn1:aQ cd (dC (blk2 ct x y scope) y) [.frz (.int qs[j].1) true,.frz (.int qs[j].2) true]=some (sc (.int qs[j].2)):=by rw[v1];rfl
  have gD' :=sGG _ _ gD;have RB:=CK (K:=X.K) (O:=D::O) (a:=qs[j].1) (b:=qs[j].2) (hO _ _ (sG.trans sGG) gD');refine wL ?_
  have hT:aK (bM X (x::y::frees scope) scope Cf s2 H2 fp cl) (λ_=>none) [.frz (.int qs[j].1) true,.frz (.int qs[j].2) true] (.Tuple [.Name y p4,.Name x p5] k2 p6) (.frz (.tup [.int qs[j].2,.int qs[j].1]) true) :=
   yJ (oy (oM C' hn1) rfl (oy (oM C' hn0) rfl BI)) rfl rfl
  refine hT (D::O) _ _ _ RB λw G5 s5 r5=> ?_;obtain⟨a5,us5,rfl,sq5,r6⟩:=Rp.tup.mp r5;have r6:us5=[.int qs[j].2,.int qs[j].1]:=by obtain⟨u1,t1,rfl,q1,r6⟩:=r6;obtain⟨u2,t2,rfl,q2,r6⟩:=r6;unfold aJ at r6;rw[r6,Rp.int.mp q1,Rp.int.mp q2]
  subst r6;have hz' :ks.length<=16777216:=hz;have sT:=sG.trans (sGG.trans s5);refine⟨s5 _ _ gD',by rw[dO];omega,qs.length-(j+1),by omega,rfl,hlt,sT.upd hD,aD,by rw[K7,hyl];rfl,?_⟩;have e:aS (L2.upd G5 D (.lst (ys++[.ref a5]))) (D::O)=aS G5 (D::O):=by
   funext c
   unfold aS
   split;rfl
   ·rename_i nc
    exact aA λz=>nc (z▸K6)
  rw[e,Ma,Kv hlt,LI];exact(hv.mono (aL (sGG.trans s5))).app (.cons (Rp.tup.mpr ⟨a5,_,rfl,sq5,.cons (Rp.int.mpr rfl) (.cons (Rp.int.mpr rfl) .nil)⟩) .nil)
 ·have e:j=qs.length:=by omega
  subst e;refine .inl ⟨⟨hp' G sG,by rw[Kr]⟩,p,o,_,hp' G sG,nf,?_⟩;refine q _ _ (λb ob e=> ?_) ⟨D,ys,rfl,s1.free hD1,by rw[aA hDp];exact gD,?_⟩
  ·have e' :=s1 _ _ e
   by_cases hb:b=p
   ·subst hb
    rw[hp]at e';cases e';exact aD
   ·rw[aA hb]
    exact sG _ _ (by rw[aA hb];exact e')
  ·rw[L8]at hv
   refine mI (p:=p) (hp' G sG) hv λc ob e nc=> ?_;unfold aS at e;unfold aS del
   split at e;cases e
   ·rename_i nc2
    have n1:c≠D:=λz=>nc2 (z▸K6);have n2:c∉O:=λz=>nc2 (Kx _ z);rw[LC n2,LC n1,aA nc];exact e
end
set_option tactic.hygienic false
theorem bind_some{c d:Type}{o:Option c}{f:c->Option d}{b:d}(h:o.bind f=some b):∃a,o=some a/\f a=some b:=by
 cases o with
 |none=>cases h|some a=>exact⟨a,rfl,h⟩
theorem map_some{c d:Type}{o:Option c}{f:c->d}{b:d}(h:o.map f=some b):∃a,o=some a/\f a=b:=by
 cases o with
 |none=>cases h|some a=>exact⟨a,rfl,LR h⟩
structure jx(cd:Nat->List PV->Option PV)(n:Nat):Prop where
 e:∀(X:Cx)(ct:Ct)(Hi:Hp)(τ:En)(e:Expr)(r:RV),bS cd X ct->aQ cd (aj n ct e) τ=some r->aK X Hi τ e r
 cm:∀(X:Cx)(ct:Ct)(Hi:Hp)(τ:En)(a:Expr)(ops:List CmpOp)(cs:List Expr)(pos:Pos)(r:RV),bS cd X ct->aQ cd (aj n ct (.Compare a ops cs pos)) τ=some r->∃t,r=sc (.bl t)/\fE X Hi τ (.Compare a ops cs pos) t
 es:∀(X:Cx)(ct:Ct)(Hi:Hp)(τ:En)(es:List Expr)(rs:List RV),bS cd X ct->dj cd (eo n ct es) τ=some rs->o8 X Hi τ es rs/\(∀a∈es,isStar a=false)/\es.length=rs.length/\∀(i:Nat)(a:Expr)(r:RV),es[i]? =some a->rs[i]? =some r->aK X Hi τ a r
 o:∀(X:Cx)(ct:Ct)(Hi:Hp)(τ:En)(e:Option Expr)(o:Option RV)(i:Option Int),bS cd X ct->Dh cd (EH n ct e) τ=some o->qw o=some i->xm X Hi τ e i
 c:∀(X:Cx)(ct:Ct)(Hi:Hp)(τ:En)(e:Expr)(b:Bool),bS cd X ct->cT cd (lr n ct e) τ=some b->fE X Hi τ e b
 call:∀(X:Cx)(ct:Ct)(Hi:Hp)(τ:En)(x:Str)(es:List Expr)(p pos:Pos)(r:RV),bS cd X ct->aQ cd (jL n ct x es) τ=some r->aK X Hi τ (.Call (.Name x p) es [] pos) r
 mth:∀(X:Cx)(ct:Ct)(Hi:Hp)(τ:En)(o:Expr)(m:Str)(es:List Expr)(ap cp:Pos)(r:RV),bS cd X ct->(ap.endLine==cp.line)=true->aQ cd (mK n ct o m es) τ=some r->aK X Hi τ (.Call (.Attribute o m ap) es [] cp) r
 t:∀(X:Cx)(ct:Ct)(Hi:Hp)(τ:En)(tp:Bool)(e tg:Expr)(xs:List PV)(k b:Bool),bS cd X ct->(tp=true->∃ts kk p,tg=.Tuple ts kk p)->rN cd (yO n ct tp e) τ=some (xs,k,b)->o7 X Hi τ tg e xs k b/\cK e=false
section
variable{cd:Nat->List PV->Option PV}
theorem jb{v:PV}(h:lX v=some b):v=.bl b:=by cases v<;>first|(cases h;done)|(cases h;rfl)
theorem AR{v:PV}(h:DI v=some b):v=.int b:=by cases v<;>first|(cases h;done)|(cases h;rfl)
theorem ky{c:Type}{l:List c}(h:l.length=1):∃a,l=[a]:=by
 cases l with
 |nil=>cases h|cons a l =>
  cases l with
  |nil=>exact⟨a,rfl⟩|cons b l=>cases h
theorem yI{c:Type}{l:List c}(h:l.length=2):∃a b,l=[a,b]:=by
 cases l with
 |nil=>cases h|cons a l =>obtain⟨b,rfl⟩:=ky (show l.length=1 from Nat.succ.inj h);exact⟨a,b,rfl⟩
theorem aP(h:aQ cd .never a=some r){P:Prop}:P:=by simp[dM]at h
theorem rJ{X:Cx}{j:Hp}{d:En}{g:BoolOp}{pos:Pos}{f:Expr->IE}(i:∀e r,aQ cd (f e) d=some r->aK X j d e r):∀{m:List Expr}{r:RV},aQ cd (lN g (m.map f)) d=some r->aK X j d (.BoolOp g m pos) r
 |[],r,h=>aP h|[a],r,h=>GG (i a r h)|a::b::aa,r,h=>by
  have n:= @rJ X j d g pos f i (b::aa);cases g with
  |And =>
   have h:aQ cd (.and (f a) (lN .And ((b::aa).map f))) d=some r:=h;obtain⟨x,c,h⟩:=bind_some h;have c:=i a x c;obtain⟨t,l,h⟩:=bind_some h;have e:=jb l;cases t with
   |true=>exact Ka c e (n h)|false=>cases h;exact Kb c e
  |Or =>
   have h:aQ cd (.or (f a) (lN .Or ((b::aa).map f))) d=some r:=h;obtain⟨x,c,h⟩:=bind_some h;have c:=i a x c;obtain⟨t,l,h⟩:=bind_some h;have e:=jb l;cases t with
   |true=>cases h;exact or_t c e|false=>exact or_f c e (n h)
theorem rH{X:Cx}{j:Hp}{d:En}{g:BoolOp}{pos:Pos}{f:Expr->IC}(i:∀e b,cT cd (f e) d=some b->fE X j d e b):∀{l:List Expr}{b:Bool},cT cd (lL g (l.map f)) d=some b->mH X j d (.BoolOp g l pos) b
 |[],r,h=>by have h:cT cd (.val .never) d=some r:=h;simp[xz,dM]at h
 |[a],r,h=>GF (i a r h)|a::b::aa,r,h=>by
  have m:= @rH X j d g pos f i (b::aa);cases g with
  |And =>
   have h:cT cd (.and (f a) (lL .And ((b::aa).map f))) d=some r:=h;obtain⟨x,c,h⟩:=bind_some h;have c:=i a x c;cases x with
   |true=>exact BK c (m h)|false=>cases h;exact BK c rfl
  |Or =>
   have h:cT cd (.or (f a) (lL .Or ((b::aa).map f))) d=some r:=h;obtain⟨x,c,h⟩:=bind_some h;have c:=i a x c;cases x with
   |true=>cases h;exact EV c rfl|false=>exact EV c (m h)
theorem vO{X:Cx}{n:Hp}{d:En}{f:Expr->IE}(m:∀e r,aQ cd (f e) d=some r->aK X n d e r):∀{c:List Expr}{b:List RV},dj cd (xA (c.map λe=>if isStar e then .never else f e)) d=some b->o8 X n d c b/\(∀a∈c,isStar a=false)/\c.length=b.length/\∀(i:Nat)(a:Expr)(r:RV),c[i]? =some a->b[i]? =some r->aK X n d a r
 |[],b,h=>by
  have h:some []=some b:=by simpa [xA,pU,pV]using h
  cases h;exact⟨BI,λa j=>(by cases j),rfl,λi a r e=>(by simp at e)⟩
 |e::c,b,h=>by
  have h:dj cd (.cons (if isStar e then .never else f e) (xA (c.map λe=>if isStar e then .never else f e))) d=some b:=h;obtain⟨x,g,h⟩:=bind_some h;obtain⟨v,p,h⟩:=map_some h;subst h;obtain⟨u,o,s,q⟩:=vO m p;cases l:isStar e with
  |true=>rw[l]at g;exact aP g|false =>
   rw[l]at g;refine⟨oy (m e x g) l u,λa j=> ?_,by rw[LK,LK,s],λi a r e1 e2=> ?_⟩
   ·rcases LB.mp j with rfl|j
    ·exact l
    ·exact o a j
   ·cases i with
    |zero =>simp at e1 e2;subst e1 e2;exact m _ _ g
    |succ i=>exact q i a r (by simpa using e1) (by simpa using e2)
set_option tactic.hygienic true
theorem KL{n:Nat}(j:jx cd n){ct:Ct}{Hi:Hp}{i:List CmpOp}(C:bS cd X ct)(h:aQ cd (aj (n+1) ct (.Compare a i q pos)) g=some r) :
  ∃t,r=sc (.bl t)/\aK X Hi g (.Compare a i q pos) r/\fE X Hi g (.Compare a i q pos) t:=by
 refine MK λno=> ?_;simp only[pP]at h
 split at h
 ·rename_i H b
  split at h;exact aP h
  ·rename_i d
   have d:=MD.mpr d;obtain⟨x,u,h⟩:=bind_some h;obtain⟨y,v,h⟩:=bind_some h;obtain⟨t,m,h⟩:=map_some h;subst h;have l:=j.e X ct Hi g a x C u;have o:=j.e X ct Hi g b y C v;exact no<|⟨t,rfl,HN C.un l o d m,HM C.un l o d m⟩
 ·rename_i H f b c
  split at h;exact aP h
  ·rename_i d
   rw[MG,not_or]at d;obtain⟨d,A⟩:=d;have A:vH f =true:=by simpa using A
   have d:=MD.mpr d;obtain⟨x,u,h⟩:=bind_some h;obtain⟨y,v,h⟩:=bind_some h;obtain⟨t,m,h⟩:=bind_some h;have l:=j.e X ct Hi g a x C u;have o:=j.e X ct Hi g b y C v;cases t with
   |true =>obtain⟨z,I,h⟩:=bind_some h;obtain⟨p,D,h⟩:=map_some h;subst h;have E:=j.e X ct Hi g c z C I;obtain⟨w,s⟩:=A4 C.un l o d m (by rw[K5 rfl];exact⟨z,E,D⟩);exact no<|⟨p,rfl,w,s⟩
   |false =>cases h;obtain⟨w,s⟩:=A4 C.un l o d m (by rw[LC K0];exact⟨rfl,su f A⟩);exact no<|⟨false,rfl,w,s⟩
 ·exact aP h
theorem KP{n:Nat}(H:jx cd n){ct:Ct}{s:En}{i:List Expr}(C:bS cd X ct)(h:aQ cd (jL (n+1) ct x i) s=some r):aK X u s (.Call (.Name x p) i [] pos) r:=by
 refine MK λno=> ?_;simp only[z1r]at h
 split at h;exact aP h
 rename_i ho;have ho:=MD.mpr ho
 split at h
 ·rename_i N
  have N:ct.S.lookup x=some .globalImplicit:=by simpa using N
  cases T:ct.F.lookup x with
  |some f =>
   rw[T]at h;dsimp only at h;cases i with
   |nil=>exact aP h|cons e i =>simp only[cR]at h;obtain⟨w,c,h⟩:=bind_some h;obtain⟨v,hv,h⟩:=map_some h;subst h;obtain⟨i1,I,i3,O⟩:=H.es X ct u s (e::i) w C c;exact no<|call_ok C ho N T I i1 hv
  |none =>
   rw[T]at h;dsimp only at h
   split at h
   ·rename_i hb
    have g:own ct x=true:=by unfold own;rw[hb,N];rfl
    have plain:∀{i:List Expr}{r:RV},aQ cd (match jf x i.length with|some f=>IE.bf f (eo n ct i)|none=>.never) s=some r->aK X u s (.Call (.Name x p) i [] pos) r:=by
     intro i r h;cases l:jf x i.length with
     |none=>rw[l]at h;exact aP h|some f =>
      rw[l]at h;simp only[dB]at h;obtain⟨w,c,h⟩:=bind_some h;obtain⟨i1,I,i3,O⟩:=H.es X ct u s i w C c;have a1:∀a,i=[a]->aK X u s (.Call (.Name x p) i [] pos) r:=by intro a Y;subst Y;obtain⟨q,rfl⟩:=ky (show w.length=1 from i3.symm);exact bf1_ok C g l (I a (by simp)) (O 0 a q rfl rfl) h
      have R:∀a b,i=[a,b]->aK X u s (.Call (.Name x p) i [] pos) r:=by intro a b Y;subst Y;obtain⟨q,rb,rfl⟩:=yI (show w.length=2 from i3.symm);exact Hc C g l (I a (by simp)) (I b (by simp)) (O 0 a q rfl rfl) (O 1 b rb rfl rfl) h
      have J:i.length=1\/i.length=2:=by
       rcases la l with⟨_,z,_⟩|l
       ·exact .inl z
       rcases je l with⟨_,z,_⟩|⟨_,z,_⟩|⟨_,z,_⟩|⟨_,z,_⟩|⟨_,z,_⟩|⟨_,z,_⟩|⟨_,z,_⟩|⟨_,z,_⟩|⟨_,z,_⟩|⟨_,z,_⟩|⟨_,z,_⟩<;>simp[z]
      rcases J with J|J
      ·obtain⟨a,ha⟩:=ky J
       exact a1 a ha
      ·obtain⟨a,b,ha⟩:=yI J
       exact R a b ha
    split at h
    ·rename_i hi
     have hi:x=("isinstance":Str):=LW hi;subst hi
     split at h
     ·rename_i a t a4
      split at h
      ·rename_i ty a3
       split at h;exact aP h
       ·rename_i Z
        have Z:=MD.mpr Z
        split at h
        ·rename_i Q
         simp only[dB,pU,pV]at h;obtain⟨w,c,h⟩:=bind_some h;obtain⟨q,j,E⟩:=bind_some c;cases E;obtain⟨b,W,h⟩:=map_some h;subst h;exact no<|isin_ok C g a3 Q Z (H.e X ct u s a q C j) W
        ·exact aP h
      ·exact aP h
     ·exact aP h
    ·split at h
     ·rename_i o m ap cp
      split at h
      ·rename_i K
       simp only[Kt]at K;obtain⟨⟨⟨A,D⟩,U⟩,M⟩:=K;have A:=LW A;have D:=LW D;subst A D;simp only[dB,pU,pV]at h;obtain⟨w,c,h⟩:=bind_some h;obtain⟨q,j,E⟩:=bind_some c;cases E;exact no<|sumv_ok C g U M (H.e X ct u s o q C j) h
      ·split at h
       ·rename_i K
        simp only[Kt]at K;obtain⟨⟨⟨A,D⟩,U⟩,M⟩:=K;have A:=LW A;have D:=LW D;subst A D;simp only[dB,pU,pV]at h;obtain⟨w,c,h⟩:=bind_some h;obtain⟨q,j,E⟩:=bind_some c;cases E;exact no<|lvals_ok C g U M (H.e X ct u s o q C j) h
       ·exact no<|plain h
     ·rename_i a5 gs scope lp
      split at h
      ·rename_i d a2
       obtain⟨rfl,L,x,y,p1,p2,k,p3,ap,cp,p4,p5,k2,p6,rfl,rfl,M,g1,g2,g3,g4⟩:=wM a2;simp only[dB,ci,pU,pV]at h;obtain⟨w,c,h⟩:=bind_some h;obtain⟨rl,a0,E⟩:=bind_some c;obtain⟨q,j,h3⟩:=bind_some a0;cases E;exact no<|bf1_ok C g (show jf ("sorted":Str) 1=some .sorted from rfl) rfl (GT C g1 g2 g3 g4 L M (H.e X ct u s d q C j) h3) h
      ·exact no<|plain h
     ·exact no<|plain h
   ·exact aP h
 ·exact aP h
theorem mthE{n:Nat}(l:jx cd n){ct:Ct}{i:Hp}{o:Expr}{m:Str}{v:List Expr}(C:bS cd X ct)(y:(u.endLine==w.line)=true)(h:aQ cd (mK (n+1) ct o m v) g=some r):aK X i g (.Call (.Attribute o m u) v [] w) r:=by
 refine MK λno=> ?_;simp only[z2d]at h
 split at h
 ·rename_i x
  split at h
  ·rename_i a
   split at h;exact aP h
   ·rename_i j
    have j:=MD.mpr j
    split at h
    ·rename_i f
     have f:=LW f;subst f;obtain⟨s,b,h⟩:=bind_some h;obtain⟨z,c,h⟩:=bind_some h;obtain⟨q,d,p⟩:=bind_some c;cases p;exact no<|join_ok x y j (l.e X ct i g o s C b) (l.e X ct i g a q C d) h
    ·split at h
     ·rename_i f
      have f:=LW f;subst f;obtain⟨s,b,h⟩:=bind_some h;obtain⟨z,c,h⟩:=bind_some h;obtain⟨q,d,p⟩:=bind_some c;cases p;exact no<|count_ok x y j (l.e X ct i g o s C b) (l.e X ct i g a q C d) h
     ·exact aP h
  ·exact aP h
 ·exact aP h
theorem Ji{n:Nat}(s:jx cd n){ct:Ct}{k:Bool}(C:bS cd X ct)(Q:D=true->∃A z p,u=.Tuple A z p)(h:rN cd (yO (n+1) ct D e) d=some (l,k,b)):o7 X j d u e l k b/\cK e=false:=by
 simp only[z2x]at h
 split at h;simp[IG]at h
 rename_i c;have c:=MD.mpr c;refine⟨?_,c⟩;have i:rN cd (.seq (aj n ct e)) d=some (l,k,b)->o7 X j d u e l k b:=by intro h;obtain⟨r,H,h⟩:=bind_some h;exact FY (s.e X ct j d e r C H) h
 have m:∀{P:Prop},rN cd .never d=some (l,k,b)->P:=by intro P h;simp[IG]at h
 split at h
 ·rename_i x v f
  obtain⟨p,pos,rfl⟩:∃p pos,e=.Call (.Name x p) v [] pos:=by
   unfold oo at f
   split at f;cases f;exact⟨_,_,rfl⟩;cases f
  split at h
  ·rename_i g
   have g:=LW g;subst g
   split at h
   ·rename_i R
    obtain⟨O,o,h⟩:=bind_some h;obtain⟨W,K,h⟩:=map_some h;cases h;obtain⟨T,I,S,U⟩:=s.es X ct j d v O C o;exact Fj C R I T S K
   ·exact m h
  ·split at h
   ·exact m h
   ·split at h
    ·rename_i g
     have g:=LW g;subst g
     split at h
     ·rename_i a
      split at h;exact m h
      ·rename_i f
       simp only[MG,not_or,Bool.not_eq_true,M1]at f;obtain⟨⟨L,M⟩,E⟩:=f;obtain⟨A,z,y,rfl⟩:=Q (by simpa using M);obtain⟨J,q,h⟩:=bind_some h;obtain⟨w,N,h⟩:=map_some h;cases h;exact Di C (by simpa using E) L (s.e X ct j d _ J C q) N
     ·exact m h
    ·exact i h
 ·exact i h
theorem lcE{n:Nat}(p:jx cd n){ct:Ct}{Hi:Hp}{scope:Scope}(C:bS cd X ct)(h:aQ cd (aj (n+1) ct (.ListComp f T scope pos)) E=some r) :
  ∃U a d N' s,T=[⟨U,a,d,0⟩]/\ba X scope N' s/\scope.kind=.function/\(∀y∈scope.names,y.2=.cell->scope.names.lookup y.1=some .cell)/\(∀y∈scope.names,y.2=.local->scope.names.lookup y.1=some .local)/\eE X.env.scope scope=true/\cK a=false /\ ∀(O:List Addr)(j:L2.St)(H:Hp)(Q:VK),aY X.K Hi O E j H->(∀u I,aE H I ->ae X.K Hi O H I r u->Q u I)->FG X N' s scope U d f (λσ H R=>WI X U a j H R) j H Q:=by
 refine MK λno=> ?_;simp only[pK]at h
 split at h
 ·rename_i t D a d
  split at h
  ·rename_i i
   cases l:slots ct.N (frees scope)with
   |none=>rw[l]at h;exact aP h|some A =>
    rw[l]at h;obtain⟨w,hw,h⟩:=bind_some h;obtain⟨xs,S,b⟩:=w;dsimp only at h
    split at h
    ·rename_i Y
     obtain⟨w2,m,h⟩:=map_some h;obtain⟨VS,NN⟩:=w2;subst h;obtain⟨o,g⟩:=p.t X ct Hi E false a (.Name t D) xs S b C (λz=>by cases z) hw;obtain⟨g1,M,Z,g4,g5,g6,g7⟩:=lB i;obtain⟨J,W,q3⟩:=DE (ifs:=d) C i l g o Y (λX' τ' k C' hk=>by
      split at hk
      ·simp only[Eu]at hk
       cases hk;exact⟨_,fL,λO j H Q R q=>q H (aE.refl _)⟩
      ·rename_i c
       exact⟨_,qM kj,λO j H Q R q=>p.c X' _ Hi τ' _ k C' hk O j H Q R q⟩
      ·simp[Et,xz,dM]at hk) (λX' τ' r' C' hr' =>p.e X' _ Hi τ' f r' C' hr') m
     exact no<|⟨.Name t D,a,d,_,_,rfl,J,g1,M,Z,W,g,q3⟩
    ·cases h
  ·exact aP h
 ·cases L:uh T with
  |none=>rw[L]at h;exact aP h|some w =>
   obtain⟨t,t2,a,d⟩:=w;rw[L]at h;obtain⟨D,v,kk,x,rfl⟩:=wI L;dsimp only at h
   split at h
   ·rename_i i
    cases l:slots ct.N (frees scope)with
    |none=>rw[l]at h;exact aP h|some A =>
     rw[l]at h;obtain⟨w,hw,h⟩:=bind_some h;obtain⟨xs,S,b⟩:=w;dsimp only at h
     split at h
     ·rename_i Y
      obtain⟨w2,m,h⟩:=map_some h;obtain⟨VS,NN⟩:=w2;subst h;obtain⟨o,g⟩:=p.t X ct Hi E true a (.Tuple [.Name t D,.Name t2 v] kk x) xs S b C (λ_=>⟨_,_,_,rfl⟩) hw;obtain⟨g1,M,Z,g4,g5,g6,g8,g7⟩:=fk i;obtain⟨J,W,q3⟩:=AH (ifs:=d) C i l g o Y (λX' τ' k C' hk=>by
       split at hk
       ·simp only[Eu]at hk
        cases hk;exact⟨_,fL,λO j H Q R q=>q H (aE.refl _)⟩
       ·rename_i c
        exact⟨_,qM kj,λO j H Q R q=>p.c X' _ Hi τ' _ k C' hk O j H Q R q⟩
       ·simp[Et,xz,dM]at hk) (λX' τ' r' C' hr' =>p.e X' _ Hi τ' f r' C' hr') m
      exact no<|⟨.Tuple [.Name t D,.Name t2 v] kk x,a,d,_,_,rfl,J,g1,M,Z,W,g,q3⟩
     ·cases h
   ·exact aP h
theorem expE{n:Nat}(g:jx cd n){ct:Ct}(C:bS cd X ct)(h:aQ cd (aj (n+1) ct e) j=some r):aK X d j e r:=by
 cases e with
 |Constant c k pos=>exact Ax h|Name x pos=>simp only[pJ]at h;exact oM C h|BinOp a J b pos =>simp only[pS,cS]at h;obtain⟨x,s,h⟩:=bind_some h;obtain⟨y,S,h⟩:=bind_some h;exact A9 (g.e X ct d j a x C s) (g.e X ct d j b y C S) h
 |UnaryOp J a pos =>
  simp only[pG]at h;cases J with
  |USub =>obtain⟨x,s,h⟩:=bind_some h;obtain⟨i,z,h⟩:=map_some h;subst h;exact GN (g.e X ct d j a x C s) (AR z)
  |Not =>obtain⟨x,s,h⟩:=bind_some h;obtain⟨i,z,h⟩:=map_some h;subst h;exact GL (g.e X ct d j a x C s) (jb z)
  |_=>exact aP h
 |Compare a a4 cs pos =>obtain⟨t,_,Y,_⟩:=KL g (Hi:=d) C h;exact Y
 |BoolOp J M pos =>
  simp only[pR]at h
  split at h;exact aP h;exact rJ (λe r h=>g.e X ct d j e r C h) h
 |IfExp c a b pos =>
  obtain⟨t,ht,h⟩:=bind_some h;refine Gb (g.c X ct d j c t C ht) ?_;cases t with
  |true=>exact g.e X ct d j a r C h|false=>exact g.e X ct d j b r C h
 |List E pos =>obtain⟨W,A,h⟩:=bind_some h;obtain⟨w,D,h⟩:=bind_some h;obtain⟨M,N⟩:=w;exact GQ (g.es X ct d j E W C A).1 D h
 |Tuple E k pos =>obtain⟨W,A,h⟩:=bind_some h;obtain⟨w,D,h⟩:=bind_some h;obtain⟨M,N⟩:=w;exact yJ (g.es X ct d j E W C A).1 D h
 |Dict L M pos =>
  simp only[pN]at h
  split at h
  ·simp only[cw]at h
   cases h;exact Dl
  ·rename_i c _ _ v
   split at h
   ·simp only[cy]at h
    obtain⟨x,s,h⟩:=bind_some h;obtain⟨w,D,h⟩:=bind_some h;obtain⟨v',N⟩:=w;dsimp only at h
    split at h
    ·rename_i z
     cases h;exact vg bA (λ_ _ _ q=>q) (g.e X ct d j v x C s) D z
    ·cases h
   ·simp only[cy]at h
    obtain⟨x,s,h⟩:=bind_some h;obtain⟨w,D,h⟩:=bind_some h;obtain⟨v',N⟩:=w;dsimp only at h
    split at h
    ·rename_i z
     cases h;exact vg bV (λ_ _ _ q=>q) (g.e X ct d j v x C s) D z
    ·cases h
   ·exact aP h
  ·exact aP h
 |Subscript a i pos =>
  simp only[pI]at h
  split at h
  ·rename_i lo z st sp
   cases st with
   |none =>obtain⟨x,s,h⟩:=bind_some h;obtain⟨l,U,h⟩:=bind_some h;obtain⟨u,hu,h⟩:=bind_some h;obtain⟨l',T,h⟩:=bind_some h;obtain⟨u',I,h⟩:=bind_some h;exact yh (g.e X ct d j a x C s) (g.o X ct d j lo l l' C U T) (g.o X ct d j z u u' C hu I) h
   |some st =>
    dsimp only at h
    split at h
    ·simp only[cX]at h
     obtain⟨x,s,h⟩:=bind_some h;exact CI (g.e X ct d j a x C s) h
    ·exact aP h
  ·rename_i K
   obtain⟨x,s,h⟩:=bind_some h;obtain⟨y,S,h⟩:=bind_some h;refine AT C.un ?_ (g.e X ct d j a x C s) (g.e X ct d j i y C S) h;cases i<;>first|rfl|(exfalso;exact K _ _ _ _ rfl)
 |Call f E L Z =>
  simp only[pQ]at h;cases L with
  |nil =>
   cases f with
   |Name x p=>exact g.call X ct d j x E p Z r C h|Attribute o m ap =>
    dsimp only at h
    split at h
    ·rename_i U
     exact g.mth X ct d j o m E ap Z r C U h
    ·exact aP h
   |_=>exact aP h
  |cons k L=>exact aP h
 |ListComp a1 gs scope pos =>obtain⟨tg,a0,a3,N',a2,rfl,Y,h2,h3,h4,h5,h6,h7⟩:=lcE g (Hi:=d) C h;intro O σ H Q R q;exact we (vB C.calm Fz Y h2 h3 h4 h5 (oJ h6)) (h7 O σ H Q R q)
 |_=>(try simp only[pT,pO,pJ,pS,pG,pP,pR,pM,pL,pH,pN,pI,pQ,pK]at h);exact aP h
set_option tactic.hygienic false
theorem tstE{n:Nat}(j:jx cd n){ct:Ct}(C:bS cd X ct)(h:cT cd (lr (n+1) ct e) f=some b):fE X g f e b:=by
 have plain:∀{e:Expr},cT cd (.val (aj n ct e)) f=some b->(∀d,isTrue e X.env d=(do let v<-d;standAt e.pos;holding [v] (truthy v)))->fE X g f e b:=by intro e h r;obtain⟨x,l,h⟩:=bind_some h;exact Ex (j.e X ct g f e x C l) h r
 cases e with
 |UnaryOp o a p =>
  simp only[IP]at h;cases o with
  |Not =>obtain⟨t,m,h⟩:=map_some h;subst h;exact GK (j.c X ct g f a t C m)
  |_=>exact plain h λ_=>rfl
 |BoolOp o s p =>exact(rH (λe b h=>j.c X ct g f e b C h) h).tc
 |IfExp c a u p =>simp[IQ,xz,dM]at h
 |Compare a i q pos =>have h:cT cd (.val (aj n ct (.Compare a i q pos))) f=some _:=h;obtain⟨x,l,h⟩:=bind_some h;obtain⟨t,rfl,m⟩:=j.cm X ct g f a i q pos x C l;cases h;exact m
 |_=>(try simp only[IV,IP,IU,IQ]at h);exact plain h λ_=>rfl
set_option tactic.hygienic true in
theorem cL:∀n:Nat,jx cd n
 |0=>by
  refine⟨λX ct Hi τ e r C h=> ?_,λX ct Hi τ a ops cs pos r C h=> ?_,λX ct Hi τ es rs C h=> ?_,λX ct Hi τ e o i C h=> ?_,λX ct Hi τ e b C h=> ?_,λX ct Hi τ x es p pos r C h=> ?_,λX ct Hi τ o m es ap cp r C hl h=> ?_,λX ct Hi τ tp e tg xs k b C ht h=> ?_⟩
  ·simp[pT,dM]at h
  ·simp[pT,dM]at h
  ·simp[z2a,pU,pV,dM]at h
  ·simp[z2e,z0x,dM]at h
  ·simp[IV,xz,dM]at h
  ·simp[z1q,dM]at h
  ·simp[z2c,dM]at h
  ·simp[z2w,IG]at h
 |n+1=>by
  have c:=cL n;refine⟨λX ct Hi τ e r C h=>expE c C h,λX ct Hi τ a ops cs pos r C h=> ?_,λX ct Hi τ es rs C h=> ?_,λX ct Hi τ e o i C h hi=> ?_,λX ct Hi τ e b C h=>tstE c C h,λX ct Hi τ x es p pos r C h=>KP c C h,λX ct Hi τ o m es ap cp r C hl h=>mthE c C hl h,λX ct Hi τ tp e tg xs k b C ht h=>Ji c C ht h⟩
  ·obtain⟨t,f,_,d⟩:=KL c C h
   exact⟨t,f,d⟩
  ·simp only[z2b]at h
   exact vO (λe r h=>c.e X ct Hi τ e r C h) h
  ·cases e with
   |none =>cases h;cases hi;exact True.intro
   |some e =>
    obtain⟨r,g,h⟩:=map_some h;subst h;simp only[qw]at hi
    split at hi
    ·rename_i j l
     cases hi;exact⟨r,c.e X ct Hi τ e r C g,l⟩
    ·cases hi
end
end IR
namespace L2
open PySem PySem.Spec PyProof.Rows
section
variable{X:Cx}{pins:List (Addr×Obj)}{σ:St}{H:Hp}{s:Shared}
set_option tactic.hygienic false
theorem zK{i:Pos}{n:List Expr}{scope:Scope}(hc:X.calm=true)(hi:PI X d g Y)(E:ba X scope W D)
  (u:scope.kind=.function) (z:∀y∈scope.names,y.2=.cell->scope.names.lookup y.1=some .cell) (l:∀y∈scope.names,y.2=.local->scope.names.lookup y.1=some .local)
  (K:eE X.env.scope scope=true)
  (hs:∀x,foldedSetIterable g X.env x=pure x) (hN:X.N.Nodup) (S:X.N[U]? =some q) (L:Loc X.env.scope q) (hf:X.fn q=true\/X.env.scope.names.lookup q=some .local)
  (T:swapsWith (.ListComp j [⟨d,g,n,0⟩] scope pos) (some (.Name q f)) i.line X.env=pure true) :
  PS X (.Assign [.Name q f] (.ListComp j [⟨d,g,n,0⟩] scope pos) i) (FQ (FG X W D scope d n j Y) (mr U)):=by
 intro r s Z H D0 I h;rw[exec_Assign_Name_used q f _ i T];refine Ku (OJ (Ku ?_));refine Ku (am ?_ λ_ s9 h9=>LS (LS h9));refine vR hc hi E u z l K hs I h λC a' s2 s4 H2 H3 fp cl m I2 f2 below hCle I4 hn qn _=> ?_;have u4:=I4.base;have IX:=I2.call' I4.os u4 I4.hok I4.bare λb hb=>⟨(f2 b hb).2.2.2.1,(f2 b hb).2.1,(f2 b hb).2.2.2.2.1,(f2 b hb).2.2.2.2.2⟩;have J:=I4.free;refine wpAny_assign_Name (mM IX hN S L (v:=.ref a') rfl (λs5 I5 ⟨a,sb,R⟩=> ?_) hf);have O:C≠a:=by
  rcases R with rfl|R
  ·exact(below _ I2.lt).symm
  ·obtain⟨v,M⟩:=I2.cell _ _ R
   exact(below _ M.lt).symm
 refine⟨m,?_,λh' hs' => ?_⟩
 ·obtain⟨ob,es,ep,ho,rr⟩:=hn
  exact⟨ob,es,ep,(sb.2 _ O).trans ho,rr⟩
 ·refine⟨_,H3,I5.turned (λb o ne e=>(hs'.2 b ne).trans e) J (below _ I2.lt).symm (.inr (LM I2.sz hCle)) (λx c e=> ?_) (λp hp=> ?_),qn⟩
  ·obtain⟨v,M⟩:=I2.cell x c e
   exact below _ M.lt
  ·exact below _ (LG (I2.pin p hp).1)
end
end L2
namespace IR
open PySem PySem.Spec PyProof.Rows L2
section
variable{X:Cx}{Hi:Hp}{τ:En}{cd:Nat->List PV->Option PV}{ct:Ct}
abbrev WS(X:Cx)(c:Stmt)(D:cO)(b:L2.St)(H:Hp):Prop:=∀(a:List (Addr×Obj))(s:Shared),Inv X a b H s->wpAny (model X.prog X.w) X.A (exec c X.env) (SP X a D) X.xe s
abbrev Ba(X:Cx)(c:List Stmt)(D:cO)(b:L2.St)(H:Hp):Prop:=∀(a:List (Addr×Obj))(s:Shared),Inv X a b H s->wpAny (model X.prog X.w) X.A (execs c X.env) (SP X a D) X.xe s
theorem fJ:PS X a (λD σ H=>WS X a D σ H):=λpins s σ H D I h=>h pins s I
theorem ay:pB X a (λD σ H=>Ba X a D σ H):=λpins s σ H D I h=>h pins s I
theorem ws{t:TS}(h:PS X b t)(q:t D a H):WS X b D a H:=λpins s I=>h pins s a H D I q
theorem iF{t:TS}(h:pB X b t)(q:t D a H):Ba X b D a H:=λpins s I=>h pins s a H D I q
variable(X Hi)in
def sE(O:List Addr)(H:Hp)(c :En)(P:L2.St->Hp->Prop):Prop:=∀(a :L2.St)(b :Hp)(d :List Addr),aY X.K Hi d c a b ->a.length=X.N.length->aE (aS H O) (aS b d)->P a b
variable(X Hi)in
def BO(c:Fl)(O:List Addr)(H:Hp)(D:cO):Prop:=match c with
 | .nx a =>sE X Hi O H a D.nx| .bk a =>sE X Hi O H a D.bk| .ct a =>sE X Hi O H a D.ct| .rt v=>∀u b,aE Hi b ->Rp X.K Hi true v b u->D.rt u b
variable(X Hi τ)in
def ji(c:Stmt)(b:Fl):Prop:=∀(O:List Addr)(a:L2.St)(H:Hp)(D:cO),aY X.K Hi O τ a H->a.length=X.N.length->BO X Hi b O H D->WS X c D a H
variable(X Hi τ)in
def xj(c:List Stmt)(b:Fl):Prop:=∀(O:List Addr)(a:L2.St)(H:Hp)(D:cO),aY X.K Hi O τ a H->a.length=X.N.length->BO X Hi b O H D->Ba X c D a H
theorem sE.from{P:L2.St->Hp->Prop}(h:sE X Hi O H a P)(s:aE (aS H O) (aS b c)):sE X Hi c b a P:=λσ2 H2 O2 R hl s2=>h σ2 H2 O2 R hl (s.trans s2)
set_option tactic.hygienic false
theorem BO.from(h:BO X Hi b O H D)(s:aE (aS H O) (aS c d)):BO X Hi b d c D:=by
 cases b with
 |nx a =>exact sE.from (show sE X Hi O H a D.nx from h) s|bk a =>exact sE.from (show sE X Hi O H a D.bk from h) s|ct a =>exact sE.from (show sE X Hi O H a D.ct from h) s|rt v=>exact h
set_option tactic.hygienic true in
theorem fO(C:bS cd X ct){i:Nat}(h:loc ct x=some i):X.N[i]? =some x/\L2.Loc X.env.scope x/\vK x=false/\Ew ct.S x=true:=by
 unfold loc at h
 split at h
 ·rename_i c
  rw[Kt]at c;refine⟨by rw[C.N];exact ff h,?_,by simpa using c.2,?_⟩
  ·unfold L2.Loc
   rw[C.S]
   simpa using c.1
  ·unfold Ew
   have:=c.1;simp only[MG]at this ⊢;exact .inl this
 ·cases h
theorem jS{cap:List Nat}(R:aY X.K Hi O τ b H):∃a,aY X.K Hi a (bD cap τ) b H/\aE (aS H O) (aS H a):=by obtain⟨a,c,h⟩:=R.freezes;exact⟨a,c,vX h⟩
set_option tactic.hygienic true in
theorem Ft{o:Bool}{i:Nat}(R:aY X.K Hi O τ g H)(s:aE H a)(q:i<g.length)(y:ae X.K Hi O H a r u)(h:ng o i r τ=some f) :
  ∃A,aY X.K Hi A f (g.set i (some u)) a /\aE (aS H O) (aS a A):=by
 unfold ng at h
 split at h
 ·rename_i D n
  cases h;obtain⟨p,us,rfl,d,z,l⟩:=y;have m:aE (aS (del a p) O) (aS a (p::O)):=λb o e=>by
   unfold aS del at e;unfold aS
   split at e;cases e
   ·rename_i c
    split at e;cases e
    ·rename_i x
     rw[LC (by simp[x,c])];exact e
  refine⟨p::O,R.setO q s d z (l.mono m),λb o e=> ?_⟩;unfold aS at e ⊢
  split at e;cases e
  ·rename_i c
   have j:=aG e d;rw[LC (by simp[j,c])];exact s b o e
 ·rename_i b D n
  cases h;obtain⟨p,us,o,rfl,d,z,C,l⟩:=y;have m:aE (aS (del a p) O) (aS a (p::O)):=λb o e=>by
   unfold aS del at e;unfold aS
   split at e;cases e
   ·rename_i c
    split at e;cases e
    ·rename_i x
     rw[LC (by simp[x,c])];exact e
  refine⟨p::O,R.setB rfl q s d z C (l.mono m),λb o e=> ?_⟩;unfold aS at e ⊢
  split at e;cases e
  ·rename_i c
   have j:=aG e d;rw[LC (by simp[j,c])];exact s b o e
 ·obtain⟨w,E,h⟩:=map_some h
  obtain⟨v,n⟩:=w;subst h;exact⟨O,(R.ext s).setF q (y.keep R s E),aL s⟩
theorem GM(h:isComp e=false\/a.kindOf x≠some .local):swapsWith e (some (.Name x p)) l a=pure false:=by
 rcases h with h|h
 ·cases e<;>first|rfl|cases h
 ·have b:(a.kindOf x==some NameKind.local)=false:=by simpa using h
  cases e<;>first|rfl|(show(pure (_&&(a.kindOf x==some NameKind.local)&&_&&_):Sem Bool)=pure false;rw[b,Bool.and_false,Nx,Nx])
theorem Hg(C:bS cd X ct)(g:X.fn=λ_=>true){n:Nat}{i:Nat}{o:Bool}(hx:loc ct x=some i)(m:aQ cd (aj n ct e) (bD f τ)=some r)(hp:ng o i r (bD f τ)=some l) :
  ji X Hi τ (.Assign [.Name x Q] e pos) (.nx l):=by
 intro O j H D R S q;obtain⟨z,A,h3,h4⟩:=fO C hx;obtain⟨y,w,Z⟩:=jS (cap:=f) R;have M:=(cL n).e X ct Hi (bD f τ) e r C m;have hi:i<j.length:=by rw[S];exact(Kw.mp z).1
 have J:X.N.Nodup:=by rw[C.N];exact C.nd
 have h:∀u v,aE H v ->ae X.K Hi y H v r u->D.nx (j.set i (some u)) v :=λu v s ok=>by obtain⟨O2,R2,s2⟩:=Ft w s hi ok hp;exact q _ _ O2 R2 (by rw[Lk];exact S) (Z.trans s2)
 by_cases E:isComp e=false\/X.env.kindOf x≠some .local
 ·refine ws (ao J z A aT (GM E) (.inl (by rw[g]))) ?_
  exact M y j H _ w h
 ·rw[not_or]at E
  obtain⟨c1,U⟩:=E;cases e with
  |ListComp I gs scope lp =>
   cases n with
   |zero=>simp[pT,dM]at m|succ n =>
    obtain⟨tg,p,L,N',W,rfl,g1,g2,g3,g4,g5,g6,Y⟩:=lcE (cL n) (Hi:=Hi) C m;obtain⟨b,T⟩:∃b,swapsWith (.ListComp I [⟨tg,p,L,0⟩] scope lp) (some (.Name x Q)) pos.line X.env=pure b:=⟨_,rfl⟩;cases b with
    |true=>exact ws (zK C.calm Fz g1 g2 g3 g4 g5 (oJ g6) J z A (.inl (by rw[g])) T) (Y y j H _ w h)|false=>exact ws (ao J z A aT T (.inl (by rw[g]))) (M y j H _ w h)
  |SetComp a b c d=>exact aP (by cases n<;>exact m)|DictComp a b c d e=>exact aP (by cases n<;>exact m)|_=>exact absurd rfl c1
theorem Fk(C:bS cd X ct){n:Nat}{v:PV}(f:aQ cd (aj n ct e) (bD a τ)=some r)(g:r.keep=some (v,true)):ji X Hi τ (.Return (some e) pos) (.rt v):=by intro O c H D R h q;obtain⟨d,b,i⟩:=jS R;refine ws (bc aT) ?_;exact(cL n).e X ct Hi _ e r C f d c H _ b λu H' s ok=>q u H' (R.same.trans s) ((ok.keep b s g).mono af)
theorem CJ:ji X Hi τ (.Return none pos) (.rt .non):=by intro O b H D R a q;exact ws Cb (q _ _ R.same (Rp.non.mpr rfl))
theorem Gk{t:Bool}(g:fE X Hi τ c t)(h:xj X Hi τ (if t=true then a else b) d):ji X Hi τ (.If c a b pos) d:=by
 intro O e H D R f q;refine ws (gW kj ay ay) ?_;refine g O e H _ R λH1 s1=> ?_;cases t with
 |true=>exact gP ((show xj X Hi τ a d from h) O e H1 _ (R.ext s1) f (q.from (aL s1)))|false=>exact ij ((show xj X Hi τ b d from h) O e H1 _ (R.ext s1) f (q.from (aL s1)))
theorem vP(C:bS cd X ct)(m:X.fn=λ_=>true):∀{d:List Expr}{l:List Nat},locs ct d=some l->∃t,Kh X d t/\(assignEach d X.env).length=l.length/\(assignEach d X.env).findIdx? (·.1)=none /\ ∀(O:List Addr)(s c :En)(f:L2.St)(H:Hp)(n:Bool)(j:List PV)(us:List V)(Q:L2.St->Hp->Prop),aY X.K Hi O s f H->f.length=X.N.length->aJ X.K Hi n j (aS H O) us->dq n l j s=some c -> (∀g,aY X.K Hi O c g H->g.length=X.N.length->Q g H)->t us f H Q
 |[],l,h=>by
  cases h;refine⟨_,iS,rfl,rfl,λO s c f H n j us Q R hl r e q=> ?_⟩;cases j with
  |nil =>obtain rfl:=r;cases e;exact⟨rfl,q f R hl⟩
  |cons x j=>cases e
 | .Name x p::d,l,h=>by
  have h:(loc ct x).bind (λi=>(locs ct d).map (i::·))=some l:=h;obtain⟨i,I,h⟩:=bind_some h;obtain⟨T,L,h⟩:=map_some h;subst h;obtain⟨z,A,S,M⟩:=fO C I;obtain⟨t,E,o,D,k⟩:=vP C m L;refine⟨_,bq (av (by rw[C.N];exact C.nd) z A (.inl (by rw[m]))) E rfl,?_,?_,λO s c f H n j us Q R hl r e q=> ?_⟩
  ·show(assignEach d X.env).length+1=_
   rw[o];rfl
  ·show List.findIdx? (·.1) ((false,assign (.Name x p) X.env)::assignEach d X.env)=none
   rw[List.findIdx?_cons,D];rfl
  ·cases j with
   |nil=>cases e|cons y J =>
    obtain⟨u,w,rfl,a,b⟩:=r;have v :i<f.length:=by rw[hl];exact(Kw.mp z).1
    exact⟨u,w,rfl,k O _ c _ H n J w Q (R.setF v a.up) (by rw[Lk];exact hl) b e q⟩
 | .BoolOp .. ::_,_,h=>by cases h| .NamedExpr .. ::_,_,h=>by cases h| .BinOp .. ::_,_,h=>by cases h| .UnaryOp .. ::_,_,h=>by cases h| .Lambda .. ::_,_,h=>by cases h| .IfExp .. ::_,_,h=>by cases h| .Dict .. ::_,_,h=>by cases h| .Set .. ::_,_,h=>by cases h| .ListComp .. ::_,_,h=>by cases h| .SetComp .. ::_,_,h=>by cases h| .DictComp .. ::_,_,h=>by cases h| .GeneratorExp .. ::_,_,h=>by cases h| .Await .. ::_,_,h=>by cases h| .Yield .. ::_,_,h=>by cases h| .YieldFrom .. ::_,_,h=>by cases h| .Compare .. ::_,_,h=>by cases h| .Call .. ::_,_,h=>by cases h| .FormattedValue .. ::_,_,h=>by cases h| .JoinedStr .. ::_,_,h=>by cases h| .Constant .. ::_,_,h=>by cases h| .Attribute .. ::_,_,h=>by cases h| .Subscript .. ::_,_,h=>by cases h| .Starred .. ::_,_,h=>by cases h| .List .. ::_,_,h=>by cases h| .Tuple .. ::_,_,h=>by cases h| .Slice .. ::_,_,h=>by cases h
theorem Ia(C:bS cd X ct)(hfn:X.fn=λ_=>true)(h:yN ct tg=some (is,one)):(one=false->∃ts k p,tg=.Tuple ts k p)/\∃g,PG X tg g /\ ∀(O:List Addr)(τ τ' :En)(σ:L2.St)(H:Hp)(n:Bool)(x:PV)(u:V)(Q:L2.St->Hp->Prop),aY X.K Hi O τ σ H->σ.length=X.N.length->Rp X.K Hi n x (aS H O) u->nU is one n x τ=some τ' -> (∀σ',aY X.K Hi O τ' σ' H->σ'.length=X.N.length->Q σ' H)->g u σ H Q:=by
 cases tg with
 |Name x p =>
  obtain⟨i,hi,h⟩:=map_some (show(loc ct x).map (λi=>([i],true))=some (is,one)from h);cases h;obtain⟨h1,h2,h3,h4⟩:=fO C hi;refine⟨λz=>(by cases z),_,av (by rw[C.N];exact C.nd) h1 h2 (.inl (by rw[hfn])),λO τ τ' σ H n x u Q R hl r e q=> ?_⟩;cases e;have hi' :i<σ.length:=by rw[hl];exact(Kw.mp h1).1
  exact q _ (R.setF hi' r.up) (by rw[Lk];exact hl)
 |Tuple es k p =>
  obtain⟨js,hj,h⟩:=map_some (show(locs ct es).map (λis=>(is,false))=some (is,one)from h);cases h;obtain⟨t,pt,hlen,hf,kk⟩:=vP (Hi:=Hi) C hfn hj;refine⟨λ_=>⟨_,_,_,rfl⟩,_,kq C.calm pt hlen hf,λO τ τ' σ H n x u Q R hl r e q=> ?_⟩;cases x with
  |tup xs =>
   obtain⟨a,us,rfl,l,r2⟩:=Rp.tup.mp r;have e:dq n is xs τ=some τ' :=e;have hz:∀{is:List Nat}{xs:List PV}{τ τ' :En},dq n is xs τ=some τ' ->xs.length=is.length:=by
    intro is
    induction is with
    |nil=>intro xs τ τ' e;cases xs with
     |nil=>rfl|cons _ _=>cases e
    |cons i is ih=>intro xs τ τ' e;cases xs with
     |nil=>cases e|cons x xs=>rw[LK,LK,ih (show dq n is xs _=some τ' from e)]
   exact⟨a,us,rfl,(af (O:=O)).tup l,by rw[<- r2.len];exact hz e,kk O τ τ' σ H n xs us Q R hl r2 e q⟩
  |_=>cases e
 |_=>cases h
theorem Gy(C:bS cd X ct)(S:X.fn=λ_=>true){o:List Nat}{n:Nat}{body:List Stmt}{k:Bool}(ht:yN ct U=some (L,d))
  (hi:rN cd (yO n ct (!d) W) (bD o A)=some (b,k,false)) (hb:∀A p,M A=some p->xj X Hi A body p) (h:lK (nU L d k) M b (bD o A)=some p):ji X Hi A (.For U W body [] pos) p:=by
 intro O σ H D R hl q;obtain⟨s,R1,s1⟩:=jS (cap:=o) R;obtain⟨T,g,pg,kg⟩:=Ia (Hi:=Hi) C S ht;obtain⟨Y,E⟩:=(cL n).t X ct Hi (bD o A) (!d) W U b k false C (λz=>T (by simpa using z)) hi;refine ws (du C.xe C.calm Fz pg ay (oJ E)) ?_;refine Y s σ H _ R1 λJ H1 sJ En=> ?_;rw[LC K0]at En;have s2:=s1.trans (aL sJ);refine⟨λi m l G=>m=b.length-i/\i<=b.length/\∃(P:List Addr)(r:IR.En),aY X.K Hi P r l G/\l.length=X.N.length/\aE (aS H1 s) (aS G P)/\lK (nU L d k) M (b.drop i) r=some p,⟨b.length,by simp,LY _,s,_,R1.ext sJ,hl,aE.refl _,h⟩,?_⟩;rintro i m l G ⟨rfl,a0,P,r,Z,I,sP,a⟩;have w:El (aS H1 s) G P:=⟨Z.lsts,sP⟩
 by_cases c:i<b.length
 ·refine .inr ⟨En.go G P i w c,λσ2 G2=>∃m',m' <b.length-i/\(m' =b.length-(i+1)/\i+1<=b.length/\∃(P:List Addr)(r:IR.En),aY X.K Hi P r σ2 G2/\σ2.length=X.N.length/\aE (aS H1 s) (aS G2 P)/\lK (nU L d k) M (b.drop (i+1)) r=some p),λσ2 G2 h=>h,λu G' y=> ?_⟩
  obtain⟨sG,x,hx,rx⟩:=En.yld G P i u G' w c y;have hd:b.drop i=x::b.drop (i+1):=by rw[NJ c];rw[Kv c]at hx;rw[LR hx]
  rw[hd]at a;unfold lK at a;obtain⟨J,h1,a⟩:=bind_some a;obtain⟨f,hf,a⟩:=bind_some a;refine kg P r J l G' k x u _ (Z.ext sG) I rx h1 λσ1 R2 hl1=> ?_;have Q:=sP.trans (aL sG);refine hb J f hf P σ1 G' _ R2 hl1 ?_;cases f with
  |nx j=>exact λσ3 G3 P3 R3 hl3 s4=>⟨_,by omega,rfl,c,P3,j,R3,hl3,Q.trans s4,a⟩|ct j=>exact λσ3 G3 P3 R3 hl3 s4=>⟨_,by omega,rfl,c,P3,j,R3,hl3,Q.trans s4,a⟩|bk j =>have a:=a;cases a;exact λσ3 G3 P3 R3 hl3 s4=>q σ3 G3 P3 R3 hl3 (s2.trans (Q.trans s4))
  |rt v =>cases a;exact q
 ·have e:i=b.length:=by omega
  subst e;rw[List.drop_length]at a;cases a;exact .inl ⟨En.stop G P w,q l G P Z I (s2.trans sP)⟩
theorem x9(C:bS cd X ct){body:List Stmt}{n:En->Option Bool}{o:En->Option Fl}(y:∀j b,n j=some b->fE X Hi j c b)(E:∀j g,o j=some g->xj X Hi j body g)(h:BW n o u j=some g) :
  ji X Hi j (.While c body [] pos) g:=by
 intro O I H D R A q;refine ws (zJ C.xe kj ay) ?_;refine⟨λm d G=>∃(P:List Addr)(i:IR.En),aY X.K Hi P i d G/\d.length=X.N.length/\aE (aS H O) (aS G P)/\BW n o m i=some g,⟨u,O,j,R,A,aE.refl _,h⟩,?_⟩;rintro m d G ⟨P,i,s,l,w,a⟩;cases m with
 |zero=>cases a|succ m =>
  unfold BW at a;obtain⟨b,r,a⟩:=bind_some a;refine y i b r P d G _ s λG1 s1=> ?_;cases b with
  |false =>rw[LC K0]at a ⊢;cases a;exact q d G1 P (s.ext s1) l (w.trans (aL s1))
  |true =>
   rw[K5 rfl]at a ⊢;obtain⟨f,z,a⟩:=bind_some a;refine⟨λσ2 G2=>∃x,x <m+1/\∃(P:List Addr)(i:IR.En),aY X.K Hi P i σ2 G2/\σ2.length=X.N.length/\aE (aS H O) (aS G2 P)/\BW n o x i=some g,λσ2 G2 h=>h,?_⟩;have p:=w.trans (aL s1);refine E i f z P d G1 _ (s.ext s1) l ?_;cases f with
   |nx e=>exact λσ3 G3 P3 R3 hl3 s4=>⟨m,by omega,P3,e,R3,hl3,p.trans s4,a⟩|ct e=>exact λσ3 G3 P3 R3 hl3 s4=>⟨m,by omega,P3,e,R3,hl3,p.trans s4,a⟩|bk e =>have a:=a;cases a;exact λσ3 G3 P3 R3 hl3 s4=>q σ3 G3 P3 R3 hl3 (p.trans s4)
   |rt v =>cases a;exact q
set_option tactic.hygienic true in
theorem nI{i:Nat}{n m:Bool}{us:List V}{P:L2.St->Hp->Prop}(R:aY X.K Hi O τ a H)(v:a.length=X.N.length)(e:τ[i]? =some (.own f n))(g:a[i]? =some (some (.ref l)))(r:aJ X.K Hi m h (aS H O) us)
  (q:sE X Hi O H (τ.set i (.own h m)) P):P a (L2.upd H l (.lst us)):=by
 have s:=R.upd e g r;refine q a _ O s v λb o z=> ?_;obtain⟨x,w,d,u,_⟩:=R.owns i f n e;rw[g]at d;cases d;unfold aS at z ⊢
 split at z;cases z
 ·rename_i j
  have p:b≠l:=λc=>j (c▸u);rw[LC j,aA p];exact z
theorem Hh(C:bS cd X ct){n:Nat}{m:Str}{i:Nat}{o:Pos}{v:PV}{k:Bool}(N:loc ct x=some i)(W:m="append")(c:(o.endLine==w.line)=true)(h:isStar a=false)
  (K:aQ cd (aj n ct a) (bD b τ)=some r) (T:r.keep=some (v,k)) (A:(bD b τ)[i]? =some (.own g j)) (hz:g.length<LN) :
  ji X Hi τ (.Expr (.Call (.Attribute (.Name x M) m o) [a] [] w) pos) (.nx ((bD b τ).set i (.own (g++[v]) (j&&k)))):=by
 intro O E H D R Y q;subst W;obtain⟨h1,h2,h3,L⟩:=fO C N;obtain⟨U,f,J⟩:=jS R;obtain⟨Z,I,o3⟩:=bt h3;refine ws (eP (gX MM N8 N7 fh (jN h1 (kP C.S L) Z I) (aB aT aH (aR h)) rfl (by rw[aR h];rfl) c (aR h) rfl) rfl) ?_;obtain⟨l,us,z,g2,y,p⟩:=f.owns i g j A;refine⟨_,z,.inl ⟨rfl,us,bJ.of y⟩,?_⟩;refine(cL n).e X ct Hi _ a r C K U E H _ f λu H' s ok=> ?_;have Q:=ok.keep f s T;have d:=p.len;refine⟨l,us,u,rfl,rfl,s _ _ y,by rw[dO,<-d];exact hz,?_⟩;exact nI (f.ext s) Y A z (GR (p.mono (aL s)) (.cons Q .nil)) (sE.from q (J.trans (aL s)))
theorem Gj(C:bS cd X ct){n:Nat}{m:Str}{i:Nat}{v:PV}{k:Bool}(hx:loc ct x=some i)(hm:m="insert")(hline:(ap.endLine==cp.line)=true)(hs:isStar a=false)(hs2:isStar b=false)
  (hrx:aQ cd (aj n ct a) τ=some rx) (hjx:rx.val=.int jj) (hr:aQ cd (aj n ct b) τ=some r) (hk:r.keep=some (v,k)) (ho:τ[i]? =some (.own xs j)) (hz:0<=jj/\jj<=xs.length/\xs.length<LN) :
  ji X Hi τ (.Expr (.Call (.Attribute (.Name x xp) m ap) [a,b] [] cp) pos) (.nx (τ.set i (.own (xs.take jj.toNat++v::xs.drop jj.toNat) (j&&k)))):=by
 intro O σ H D R hl q;subst hm;obtain⟨h1,h2,h3,h4⟩:=fO C hx;obtain⟨o1,o2,o3⟩:=bt h3;refine ws (eP (gX MM PySem.F.slot_list_insert PySem.F.type_list_insert ma (jN h1 (kP C.S h4) o1 o2) (aB aT (aB aT aH (aR hs2)) (aR hs)) rfl (by rw[aR hs,aR hs2];rfl) hline (aR hs) (iX λc hc=>by simp at hc;subst hc;exact hs2)) rfl) ?_;obtain⟨l,us,g1,g2,g3,g4⟩:=R.owns i xs j ho;refine⟨_,g1,.inl ⟨rfl,us,bJ.of g3⟩,?_⟩;refine(cL n).e X ct Hi _ a rx C hrx O σ H _ R λw H1 s1 ok1=>(cL n).e X ct Hi _ b r C hr O σ H1 _ (R.ext s1) λu H' s ok=> ?_;have kp:=ok.keep (R.ext s1) s hk;have hlen:=g4.len;have ew:=ok1.int R s1 hjx;subst ew;refine⟨l,us,jj,u,rfl,rfl,s _ _ (s1 _ _ g3),hz.1,by rw[<- hlen];exact hz.2.1,by rw[dO,<-hlen];exact hz.2.2,?_⟩;have st:=s1.trans s;have g5:=g4.mono (aL st);exact nI (R.ext st) hl ho g1 (GR (g5.take _) (aJ.low (.cons (kp.low λz=>by rw[Kt]at z;exact z.2) ((g5.drop _).low λz=>by rw[Kt]at z;exact z.1)) id) |>.low λz=>by simpa using z) (sE.from q (aL st))
theorem B1(C:bS cd X ct){n:Nat}{i:Nat}{k:Expr}{rk:RV}{v:PV}{m:Bool}(hx:loc ct x=some i)(hns:eT k=false)(hnc:isComp e=false)
  (hr:aQ cd (aj n ct e) (bD cap τ)=some r) (hk:r.keep=some (v,m)) (hrk:aQ cd (aj n ct k) (bD cap τ)=some rk) (hj:rk.val=.int jj) (ho:(bD cap τ)[i]? =some (.own xs j)) (hq:sH xs.length jj=some qn) :
  ji X Hi τ (.Assign [.Subscript (.Name x xp) k sp] e pos) (.nx ((bD cap τ).set i (.own (xs.set qn v) (j&&m)))):=by
 intro O σ H D R hl q;obtain⟨h1,h2,h3,h4⟩:=fO C hx;obtain⟨O1,R1,s1⟩:=jS (cap:=cap) R;obtain⟨o1,o2,o3⟩:=bt h3
 have ha:∀v,assign (.Subscript (.Name x xp) k sp) X.env v=(do
   let ov<-holding [v] (eval (.Name x xp) X.env)
   let iv<-holding [v,ov] (eval k X.env)
   standAt sp
   holding [v,ov,iv] (setItem ov iv v)
   release [v,ov,iv] []):=by
  intro v;cases k<;>first|rfl|cases hns
 refine ws (Fy aT (F2 (jN h1 (kP C.S h4) o1 o2) aT yj ha) (by cases e<;>first|rfl|cases hnc) (by cases e<;>rfl) rfl) ?_;refine(cL n).e X ct Hi _ e r C hr O1 σ H _ R1 λu H' s ok=> ?_;obtain⟨l,us,g1,g2,g3,g4⟩:=(R1.ext s).owns i xs j ho;refine⟨_,g1,?_⟩;refine(cL n).e X ct Hi _ k rk C hrk O1 σ H' _ (R1.ext s) λw H2 s2 ok2=> ?_;have kp:=(ok.keep R1 s hk).mono (aL s2);have g5:=g4.mono (aL s2);have hlen:=g4.len;refine⟨l,us,jj,qn,rfl,ok2.int (R1.ext s) s2 hj,s2 _ _ g3,by rw[<- hlen];exact hq,?_⟩;refine nI (R1.ext (s.trans s2)) hl ho g1 ((g5.low λz=> ?_).set qn (kp.low λz=> ?_)) (sE.from q (s1.trans (aL (s.trans s2))))
 ·rw[Kt]at z;exact z.1
 ·rw[Kt]at z;exact z.2
set_option tactic.hygienic true in
theorem B2(C:bS cd X ct){n:Nat}{i:Nat}{k:Expr}{K:RV}{v:PV}{m:Bool}(hx:loc ct x=some i)(a0:eT k=false)(I:isComp e=false)
  (hr:aQ cd (aj n ct e) (bD a τ)=some r) (hk:r.keep=some (v,m)) (J:aQ cd (aj n ct k) (bD a τ)=some K) (hj:gZ K.val=some d) (T:(bD a τ)[i]? =some (.owd (.dK f) w j)) (hz:w.length<LN) :
  ji X Hi τ (.Assign [.Subscript (.Name x xp) k sp] e pos) (.nx ((bD a τ).set i (.owd (.dK (iQ f d)) (putL f w d v) (j&&m)))):=by
 intro O E H D R hl q;obtain⟨h1,h2,h3,h4⟩:=fO C hx;obtain⟨p,g,s1⟩:=jS (cap:=a) R;obtain⟨o1,o2,o3⟩:=bt h3;have W:=C.un;refine ws (kG (by omega) (jN h1 (kP C.S h4) o1 o2) aT aT (by cases e<;>first|rfl|cases I)) ?_;refine(cL n).e X ct Hi _ e r C hr p E H _ g λu H' s ok=> ?_;obtain⟨l,us,o,M,g2,g3,ga,L⟩:=(g.ext s).obs i _ (.dK f) w j T rfl;obtain⟨rfl,h⟩:=ga;refine⟨_,M,?_⟩;refine(cL n).e X ct Hi _ k K C J p E H' _ (g.ext s) λw H2 s2 ok2=> ?_;have kp:=(ok.keep g s hk).mono (aL s2);have g5:=L.mono (aL s2);have A:=L.len;have hw:=qm hj (ok2.val (g.ext s) s2);subst hw;obtain⟨z1,Y⟩:=CV h;have N:r9 H2 l (kV d) u (L2.upd H2 l (.dK (dS (f.zip us) d u))):=.k (s2 _ _ g3) (by rw[List.length_zip,h,NC,<-A,dO];exact hz);rw[z1]at N;refine⟨l,_,rfl,N,?_⟩;have U:=s.trans s2;have R2:=(g.ext U).updB (t1:=.owd (.dK (iQ f d)) (putL f w d v) (j&&m)) T rfl rfl M ⟨rfl,Y⟩ (Fs (kp.low λz=>by rw[Kt]at z;exact z.2) (g5.low λz=>by rw[Kt]at z;exact z.1));refine q E _ p R2 hl λb o z=> ?_;have z:=s1.trans (aL U) b o z;unfold aS at z ⊢
 split at z;cases z
 ·rename_i Q
  have Z:b≠l:=λc=>Q (c▸g2);rw[LC Q,aA Z];exact z
theorem BH(C:bS cd X ct)(a:X.fn=λ_=>true){n:Nat}{i:Nat}{o:Pos}{v:Int}{k:Bool}(p:loc ct x=some i)(b:PIp X d (ipI g))(l:aQ cd (aj n ct e) τ=some r)(E:τ[i]? =some (.frz (.int v) k))(I:r.val=.int w) :
  ji X Hi τ (.AugAssign (.Name x o) d e pos) (.nx (τ.set i (.frz (.int (g v w)) true))):=by
 intro O c H D R f q;obtain⟨h,j,K,J⟩:=fO C p;have y:i<c.length:=by rw[f];exact(Kw.mp h).1
 have z:X.N.Nodup:=by rw[C.N];exact C.nd
 obtain⟨u,m,A⟩:=R.frz i _ _ E;cases Rp.int.mp A;refine ws (Fx z h j aT b (.inl (by rw[a]))) ⟨_,m,?_⟩;refine(cL n).e X ct Hi _ e r C l O c H _ R λu' H' s ok=>⟨v,w,rfl,ok.int R s I,?_⟩;exact q _ _ O ((R.ext s).setF y (Rp.int.mpr rfl)) (by rw[Lk];exact f) (aL s)
end
section
variable{cd:Nat->List PV->Option PV}{fu:Nat}
structure Kq(cd:Nat->List PV->Option PV)(fu:Nat)(n:Nat):Prop where
 s:∀(X:Cx)(ct:Ct)(Hi:Hp)(τ:En)(st:Stmt)(fl:Fl),bS cd X ct->(X.fn=fun _=>true)->di cd fu (o9 n ct st) τ=some fl->ji X Hi τ st fl
 ss:∀(X:Cx)(ct:Ct)(Hi:Hp)(τ:En)(st:List Stmt)(fl:Fl),bS cd X ct->(X.fn=fun _=>true)->aX cd fu (d6 n ct st) τ=some fl->xj X Hi τ st fl
set_option tactic.hygienic false
theorem aw(h:di cd fu .never a=some r){P:Prop}:P:=by simp[gC]at h
set_option tactic.hygienic true in
theorem stE{n:Nat}(IH:Kq cd fu n){ct:Ct}{st:Stmt}{fl:Fl}(C:bS cd X ct)(hfn:X.fn=λ_=>true)(h:di cd fu (o9 (n+1) ct st) τ=some fl):ji X Hi τ st fl:=by
 cases st with
 |Return v pos =>
  simp only[v3]at h;cases v with
  |none =>cases h;exact CJ
  |some e =>
   obtain⟨r,hr,h⟩:=bind_some h;obtain⟨w,hk,h⟩:=bind_some h;obtain⟨v,m⟩:=w;dsimp only at h
   split at h
   ·rename_i hm
    cases h;subst hm;exact Fk C hr hk
   ·cases h
 |Assign ts e pos =>
  simp only[wD]at h
  split at h
  ·rename_i x xp
   cases hx:loc ct x with
   |none=>rw[hx]at h;exact aw h|some i =>rw[hx]at h;obtain⟨r,hr,h⟩:=bind_some h;obtain⟨τ',hp',h⟩:=map_some h;subst h;exact Hg C hfn hx hr hp'
  ·rename_i x xp k sp
   cases hx:loc ct x with
   |none=>rw[hx]at h;exact aw h|some i =>
    rw[hx]at h;dsimp only at h
    split at h;exact aw h
    ·rename_i hc
     simp only[MG,not_or,Bool.not_eq_true]at hc;obtain⟨r,hr,h⟩:=bind_some h;obtain⟨w,hk,h⟩:=bind_some h;obtain⟨v,m⟩:=w;obtain⟨rk,hrk,h⟩:=bind_some h
     split at h
     ·rename_i jj xs j hj ho
      obtain⟨qn,hq,h⟩:=map_some h;subst h;exact B1 C hx hc.1 hc.2 hr hk hrk hj ho hq
     ·rename_i ks xs j ho
      obtain⟨kk,hkk,h⟩:=bind_some h
      split at h
      ·rename_i hz
       cases h;exact B2 C hx hc.1 hc.2 hr hk hrk hkk (by assumption) hz
      ·cases h
     ·cases h
  ·exact aw h
 |If c a b pos =>
  obtain⟨t,ht,h⟩:=bind_some h;refine Gk ((cL n).c X ct Hi τ c t C ht) ?_;cases t with
  |true=>exact IH.ss X ct Hi τ a fl C hfn h|false=>exact IH.ss X ct Hi τ b fl C hfn h
 |For tg it body els pos =>
  simp only[v7]at h;cases els with
  |cons _ _=>exact aw h|nil =>
   cases ht:yN ct tg with
   |none=>rw[ht]at h;exact aw h|some w =>
    obtain⟨is,one⟩:=w;rw[ht]at h;obtain⟨w,hw,h⟩:=bind_some h;obtain⟨xs,k,b⟩:=w;cases b with
    |true=>cases h|false=>exact Gy C hfn ht hw (λτ fl h=>IH.ss X ct Hi τ body fl C hfn h) h
 |While c body els pos =>
  simp only[vz]at h;cases els with
  |cons _ _=>exact aw h|nil =>simp only[fq]at h;exact x9 C (λτ b h=>(cL n).c X ct Hi τ c b C h) (λτ fl h=>IH.ss X ct Hi τ body fl C hfn h) h
 |Pass pos =>cases h;exact λO σ H D R hl q=>ws Cc (q σ H O R hl (aE.refl _))
 |Break pos =>cases h;exact λO σ H D R hl q=>ws zM (q σ H O R hl (aE.refl _))
 |Continue pos =>cases h;exact λO σ H D R hl q=>ws qK (q σ H O R hl (aE.refl _))
 |Expr e pos =>
  simp only[v9]at h
  split at h
  ·rename_i x xp m ap es cp
   split at h
   ·rename_i hline
    cases hx:loc ct x with
    |none=>rw[hx]at h;exact aw h|some i =>
     rw[hx]at h;dsimp only at h
     split at h
     ·rename_i a
      split at h;exact aw h
      ·rename_i hs
       split at h
       ·rename_i hm
        simp only[gN]at h;obtain⟨r,hr,h⟩:=bind_some h;obtain⟨w,hk,h⟩:=bind_some h;obtain⟨v,k⟩:=w
        split at h
        ·rename_i xs j ho
         split at h
         ·rename_i hz
          cases h;exact Hh C hx (LW hm) hline (MD.mpr hs) hr hk ho hz
         ·cases h
        ·cases h
       ·exact aw h
     ·rename_i a b
      split at h;exact aw h
      ·rename_i hs
       simp only[MG,not_or,Bool.not_eq_true]at hs
       split at h
       ·rename_i hm
        simp only[gE]at h;obtain⟨rx,hrx,h⟩:=bind_some h;obtain⟨r,hr,h⟩:=bind_some h;obtain⟨w,hk,h⟩:=bind_some h;obtain⟨v,k⟩:=w
        split at h
        ·rename_i jj xs j hj ho
         split at h
         ·rename_i hz
          cases h;exact Gj C hx (LW hm) hline hs.1 hs.2 hrx hj hr hk ho hz
         ·cases h
        ·cases h
       ·exact aw h
     ·exact aw h
   ·exact aw h
  ·exact aw h
 |AugAssign t op e pos =>
  simp only[wC]at h
  split at h
  ·rename_i x xp
   cases hx:loc ct x with
   |none=>rw[hx]at h;exact aw h|some i =>
    rw[hx]at h;obtain⟨r,hr,h⟩:=bind_some h
    split at h
    ·rename_i hv hw
     cases h;exact BH C hfn hx Gf hr (by assumption) (by assumption)
    ·rename_i hv hw
     cases h;exact BH C hfn hx Ge hr (by assumption) (by assumption)
    ·cases h
  ·exact aw h
 |Raise e c pos =>
  simp only[v4]at h
  split at h
  ·split at h
   ·simp[gA]at h
   ·exact aw h
  ·exact aw h
 |_=>(try simp only[wE,v3,wD,v6,v7,vz,v5,wB,wA,v9,v4,wC]at h);exact aw h
theorem BL:∀n:Nat,Kq cd fu n
 |0=>by
  refine⟨λX ct Hi τ b fl C hfn h=> ?_,λX ct Hi τ b fl C hfn h=> ?_⟩
  ·simp[wE,gC]at h
  ·simp[z2h,wF,wG,gC]at h
 |n+1=>by
  have e:=BL n;refine⟨λX ct Hi τ b fl C hfn h=>stE e C hfn h,λX ct Hi τ b fl C hfn h=> ?_⟩;cases b with
  |nil =>simp only[z2j,wF]at h;cases h;exact λO d H D R c q=>iF bF (q d H O R c (aE.refl _))
  |cons b i =>
   simp only[z2i]at h;simp only[wG]at h;obtain⟨f,g,h⟩:=bind_some h;have j:=e.s X ct Hi τ b f C hfn g;intro O d H D R c q;refine iF (aF fJ ay) ?_;refine j O d H _ R c ?_;cases f with
   |nx a=>exact λσ1 H1 O1 R1 hl1 s1=>e.ss X ct Hi a i fl C hfn h O1 σ1 H1 D R1 hl1 (q.from s1)|bk a =>have h:=h;cases h;exact q
   |ct a =>cases h;exact q
   |rt v =>cases h;exact q
end
structure xy(K:W.Frag)(mg:Str->Option Value)(P:Nat->Option FD)(F:List (Str×Nat))(G:List (Str×PV))(B:List Str)(x:Str)(f:Nat)(a:Addr)(fd:FuncData)(ps:List Str):Prop where
 ex:(mg x=some (.ref a)/\W.keepIn K (.ref a)=true/\Binds K fd ps []/\∀(p:Program)(w:World)(base:Heap)(k:Nat),(∀j,j<=k->∀y g,F.lookup y=some g->∃b gd qs,mg y=some (.ref b)/\W.keepIn K (.ref b)=true/\Binds K gd qs []/\aq p w K mg base dI j b gd qs (kB K (aC P j g)))->aq p w K mg base dI (k+1) a fd ps (kB K (aC P (k+1) f)))\/∃st N M n body,eh K mg x st ps a fd/\ak N ps (aI st)/\P f=some ⟨N.length,ps.length,body⟩/\d6 n ⟨N,(aI st).names,F,G,B,M⟩ (ai st)=body
set_option tactic.hygienic false
theorem xy.def{K:W.Frag}{P:Nat->Option FD}{F:List (Str×Nat)}{G:List (Str×PV)}{B:List Str}(d:xy K c P F G B x f a e b):c x=some (.ref a)/\W.keepIn K (.ref a)=true/\Binds K e b []:=by
 rcases d.ex with⟨i,g,h,_⟩|⟨j,N,M,n,body,D,_⟩
 ·exact⟨i,g,h⟩
 ·exact⟨D.nm,D.fn.kp,D.bd⟩
theorem jW{K:W.Frag}{d:FD}{N:List Str}(C:d.nn=N.length)(r:aJ K H false a H h):aY K H [] (entry d a) (start N h) H:=by
 have q:=r.len;have c:∀i (t:TV),(entry d a)[i]? =some t->t=.un\/∃v u,t=.frz v (imm v)/\(start N h)[i]? =some (some u)/\Rp K H false v H u:=λi t e=>by
  unfold entry at e
  by_cases o:i<a.length
  ·rw[L9 (by simpa using o),LA]at e
   have p:a[i]? =some a[i]:=by simp
   rw[p]at e;cases e;obtain⟨u,w,A⟩:=r.at p;refine .inr ⟨_,u,rfl,?_,A⟩;unfold L2.start;rw[L9 (by rw[Kr];omega),LA,w];rfl
  ·rw[M8 (by simpa using o),List.getElem?_replicate]at e
   split at e
   ·cases e
    exact .inl rfl
   ·cases e
 refine⟨aE.refl _,λl q=>(by cases q),λi v n e=> ?_,λi t b xs n e ht=> ?_,λi j t t' x y l e1 ht e2 ht' g f=> ?_⟩
 ·rcases c i _ e with z|⟨s,u,z,g,f⟩
  ·cases z
  ·cases z
   refine⟨u,g,?_⟩;cases m:imm v with
   |true=>exact Rp.imm m ⟨λ_ _ e=>e,λ_ _ _ e=>e⟩ f|false=>exact f
 ·rcases c i _ e with z|⟨s,u,z,g,f⟩<;>(subst z;cases ht)
 ·rcases c i _ e1 with z|⟨s,u,z,g,f⟩<;>(subst z;cases ht)
set_option tactic.hygienic true in
theorem G7{K:W.Frag}{i:Heap}{P:Nat->Option FD}{F:List (Str×Nat)}{G:List (Str×PV)}{B:List Str}
  (hG:∀x v,G.lookup x=some v->∃u w,I x=some u/\RelV w u/\∀Hi n H,Rp K Hi n v H w) (hB:∀x,B.contains x=true->I x=none) (hF:∀x f,F.lookup x=some f->∃a o l,xy K I P F G B x f a o l) :
  ∀(k:Nat)(x:Str)(f:Nat)(a:Addr)(o:FuncData)(l:List Str),xy K I P F G B x f a o l->aq p w K I i dI k a o l (kB K (aC P k f)):=by
 have S:∀k j,j<=k->∀x f a o l,xy K I P F G B x f a o l->aq p w K I i dI j a o l (kB K (aC P j f)):=by
  intro k
  induction k with
  |zero =>intro j Z;have e:=Nat.le_zero.mp Z;subst e;intro x f a o l _;exact⟨λvs H Q E h=>(by obtain⟨_,_,_,z,_⟩:=h;cases z),λA outer s H args us vs Q E _ _ _ _ h=>(by obtain⟨_,_,_,z,_⟩:=h;cases z)⟩
  |succ k ih =>
  intro j Z
  by_cases a0:j<=k;exact ih j a0
  have e:j=k+1:=by omega
  subst e;intro x f a o l d
  rcases d.ex with⟨_,_,_,T⟩|⟨st,N,M,n,body,D,S,hP,J⟩
  ·exact T p w i k λj Z y g hy=>by obtain⟨b,gd,qs,dy⟩:=hF y g hy;obtain⟨z1,z2,z3⟩:=dy.def;exact⟨b,gd,qs,z1,z2,z3,ih j Z y g b gd qs dy⟩
  have O:∀{c:List PV}{r:PV},aC P (k+1) f c=some r->c.length=l.length/\bv (aX (aC P k) 1000000 body (entry ⟨N.length,l.length,body⟩ c))=some r:=λ{c r} h=>by
   unfold aC at h;rw[hP]at h;dsimp only[Option.bind]at h
   split at h
   ·rename_i hl
    exact⟨hl,h⟩
   ·cases h
  refine D.fn.ok S (λvs H Q E h=> ?_) (λcdv A outer s H vs Q E hr h=> ?_)
  ·obtain⟨c,r,Y,m,_⟩:=h
   rw[<- Y.len];exact(O m).1
  ·obtain⟨c,r,Y,m,q⟩:=h
   obtain⟨hl,m⟩:=O m;have a1:l.length<=N.length:=by have:=L5 List.length S.pre;rw[Ln]at this;omega
   cases X:aX (aC P k) 1000000 body (entry ⟨N.length,l.length,body⟩ c)with
   |none=>rw[X]at m;cases m|some fl =>
    rw[X]at m
    have C:bS (aC P k) (dg dI p w K I i N x (aI st) a cdv A outer s H E).nox ⟨N,(aI st).names,F,G,B,M⟩ :=
     ⟨rfl,S.nd,rfl,S.kind,rfl,hG,hB,λy g hy=>by obtain⟨a',L,U,d'⟩:=hF y g hy;obtain⟨z1,z2,z3⟩:=d'.def;exact⟨k,a',L,U,ih k (Ky k) y g a' L U d',hr,z1,z2,z3⟩,Lq,hr.units⟩
    rw[<- J]at X;have h3:=(BL n).ss _ _ H _ (ai st) fl C rfl X;refine⟨_,ay,h3 [] (start N vs) H _ (jW rfl Y) ?_ ?_⟩
    ·show(start N vs).length=N.length
     unfold L2.start;rw[K7,Kr,Mx];have:=Y.len;omega
    ·cases fl with
     |nx R =>cases m;exact λσ' H' O' R' _ _=>q _ _ R'.same (Rp.non.mpr rfl)
     |rt v =>cases m;exact q
     |bk R =>cases m|ct R =>cases m
 exact λk=>S k k (Ky k)
theorem dX{P:Nat->Option FD}{f n m:Nat}(h:P f=some ⟨n,m,.cons .never .nil⟩):∀(k:Nat)(a:List PV),aC P k f a=none
 |0,_=>rfl|k+1,a=>by
  unfold aC;rw[h,K2]
  split;simp[wF,wG,gC,bv];rfl
theorem fZ{K:W.Frag}{P:Nat->Option FD}{A:Program->World->Heap->Nat->Prop}(h:∀(k:Nat) (c:List PV),aC P k f c=none)(p:Program)(w:World)(b:Heap)(k:Nat)(_:A p w b k):aq p w K d b dI (k+1) a g e (kB K (aC P (k+1) f)) := ⟨λvs H Q E z=>(by obtain⟨_,_,_,z,_⟩:=z;rw[h]at z;cases z),λA outer s H args us c Q E _ _ _ _ z=>(by obtain⟨_,_,_,z,_⟩:=z;rw[h]at z;cases z)⟩
section
variable{K:W.Frag}{mg:Str->Option Value}{P:Nat->Option FD}{F0:List (Str×Nat)}{G0:List (Str×PV)}{B0:List Str}
theorem fnil:∀(x:Str)(f:Nat),([]:List (Str×Nat)).lookup x=some f->∃a c b,xy K mg P F0 G0 B0 x f a c b:=λx f h=>by cases h
set_option tactic.hygienic true in
theorem ar{i:Nat}(h:∃a d b,xy K mg P F0 G0 B0 g i a d b)(j:∀(x:Str) (f:Nat),r.lookup x=some f->∃a d b,xy K mg P F0 G0 B0 x f a d b) :
  ∀(x:Str)(f:Nat),((g,i)::r).lookup x=some f->∃a d b,xy K mg P F0 G0 B0 x f a d b:=λx f e=>by
 rw[Lm]at e
 split at e
 ·rename_i c
  cases e;rw[LW c];exact h
 ·exact j x f e
theorem gnil:∀(x:Str)(v:PV),([]:List (Str×PV)).lookup x=some v->∃u w,mg x=some u/\RelV w u/\∀a n H,Rp K a n v H w:=λx f h=>by cases h
set_option tactic.hygienic true in
theorem AY(h:∃u w,mg b=some u/\RelV w u/\∀a n H,Rp K a n d H w)(g:∀(x:Str) (v:PV),r.lookup x=some v->∃u w,mg x=some u/\RelV w u/\∀a n H,Rp K a n v H w) :
  ∀(x:Str)(v:PV),((b,d)::r).lookup x=some v->∃u w,mg x=some u/\RelV w u/\∀a n H,Rp K a n v H w:=λx f e=>by
 rw[Lm]at e
 split at e
 ·rename_i c
  cases e;rw[LW c];exact h
 ·exact g x f e
theorem bnil:∀(x:Str),([]:List Str).contains x=true->mg x=none:=λx h=>by simp at h
theorem dh(h:mg a=none)(b:∀(x:Str),r.contains x=true->mg x=none):∀(x:Str),(a::r).contains x=true->mg x=none:=λx e=>by
 rw[MU,MG]at e
 rcases e with e|e
 ·rw[LW e]
  exact h
 ·exact b x e
end
theorem AE{c:Type}{us:List c}(h:us.length=1):∃a,us=[a]:=by
 cases us with
 |nil=>cases h|cons a us=>cases us with
  |nil=>exact⟨a,rfl⟩|cons b us=>cases h
theorem DA{c:Type}{us:List c}(h:us.length=2):∃a b,us=[a,b]:=by
 cases us with
 |nil=>cases h|cons a us=>obtain⟨b,rfl⟩:=AE (Nat.succ.inj h);exact⟨a,b,rfl⟩
theorem Jf{d:Type}{us:List d}(h:us.length=3):∃a b c,us=[a,b,c]:=by
 cases us with
 |nil=>cases h|cons a us=>obtain⟨b,c,rfl⟩:=DA (Nat.succ.inj h);exact⟨a,b,c,rfl⟩
theorem len4{e:Type}{us:List e}(h:us.length=4):∃a b c d,us=[a,b,c,d]:=by
 cases us with
 |nil=>cases h|cons a us=>obtain⟨b,c,d,rfl⟩:=Jf (Nat.succ.inj h);exact⟨a,b,c,d,rfl⟩
def dk:Nat->kO->kO
 |0,s=>s|n+1,.cons _ r=>dk n r|_+1,.nil=>.nil
theorem rF{set:PV->En->Option En}{body:En->Option Fl}(I:Nat->En->Prop)(R:Fl->Prop):∀(xs ys:List PV)(τ:En),I xs.length τ -> (∀(i:Nat)(x:PV)(τ:En),(xs++ys)[i]? =some x->xs.length<=i->I i τ->∃τ1 f,set x τ=some τ1/\body τ1=some f/\(match f with| .nx τ2=>I (i+1) τ2| .ct τ2=>I (i+1) τ2| .bk τ2=>R (.nx τ2)| .rt v=>R (.rt v))) -> (∀τ,I (xs++ys).length τ->R (.nx τ))->∃fl,lK set body ys τ=some fl/\R fl
 |xs,[],τ,h0,hs,he=>⟨.nx τ,rfl,he τ (by rw[MP];exact h0)⟩|xs,y::ys,τ,h0,hs,he=>by
  obtain⟨τ1,f,h1,h2,h3⟩:=hs xs.length y τ (by simp) (Ky _) h0;have e:xs++y::ys=(xs++[y])++ys:=by simp
  have ih:=λτ2 h=>rF I R (xs++[y]) ys τ2 (by rw[K7];exact h) (λi x τ hx hi=>hs i x τ (by rw[e];exact hx) (by rw[K7]at hi;omega)) (by rw[<- e];exact he);unfold lK;rw[h1];dsimp only[Option.bind];rw[h2];cases f with
  |nx τ2=>exact ih τ2 h3|ct τ2=>exact ih τ2 h3|bk τ2=>exact⟨_,rfl,h3⟩|rt v=>exact⟨_,rfl,h3⟩
theorem Dg{set:PV->En->Option En}{body:En->Option Fl}{xs:List PV}{τ:En}(I:Nat->En->Prop)(R:Fl->Prop)(d:I 0 τ)
  (e:∀(i:Nat)(x:PV)(τ:En),xs[i]? =some x->I i τ->∃b f,set x τ=some b/\body b=some f/\(match f with| .nx a=>I (i+1) a| .ct a=>I (i+1) a| .bk a=>R (.nx a)| .rt v=>R (.rt v)))
  (g:∀τ,I xs.length τ->R (.nx τ)):∃c,lK set body xs τ=some c/\R c :=
 rF I R [] xs τ d (λi x τ hx _ hI=>e i x τ hx hI) g
theorem bC{f:PV->Option (Option (PV×Bool))}{g:PV->PV}{n:Bool}:∀{a:List PV},(∀x∈a,f x=some (some (g x,true)))->bz f a=some (a.map g,true)
 |[],_=>rfl|x::a,h=>by unfold bz;rw[h x K6,bC (n:=n) λy hy=>h y (Kx _ hy)];rfl
section
variable{v:PV}{n m:Bool}{xs ys:List PV}{i j:Int}{z y:Str}{a b:RV}{τ:En}{t:TV}{k:Nat}
theorem bT:(RV.frz v n).val=v:=rfl
theorem Bi:(RV.bor v).val=v:=rfl
theorem Bh:(RV.own xs n).val=.lst xs:=rfl
theorem AO:(RV.frz v n).keep=some (v,n):=rfl
theorem AN:(RV.own xs n).keep=some (.lst xs,n):=rfl
theorem DG:(RV.owd (.dK c) xs n).keep=some (.dK c xs,n):=rfl
theorem C9:cJ (.lst xs)=some xs.length:=rfl
theorem C8:cJ (.tup xs)=some xs.length:=rfl
theorem len_str:cJ (.str z)=if z.length<=LN then some z.length else none:=rfl
theorem Dj:bv (some (.rt v))=some v:=rfl
theorem Gv:j9 (.frz v n::τ) 0=some (.frz v n):=rfl
theorem Gx:j9 (.own xs n::τ) 0=some (.bor (.lst xs)):=rfl
theorem Gw:j9 (t::τ) (k+1)=j9 τ k:=rfl
theorem rD:bD [] τ=τ:=rfl
theorem mv:bD (k::c) τ=bD c (oX τ k):=rfl
theorem De:oX (.own xs n::τ) 0=.frz (.lst xs) n::τ:=rfl
theorem va:oX (.frz v n::τ) 0=.frz v n::τ:=rfl
theorem Ab:oX (t::τ) (k+1)=t::oX τ k:=by
 unfold oX;rw[Mk];cases τ[k]? with
 |none=>rfl|some t=>cases t<;>rfl
theorem D2:cC .Add (.frz (.int i) n) (.frz (.int j) m)=some (sc (.int (i+j))):=rfl
theorem Dx:cC .Sub (.frz (.int i) n) (.frz (.int j) m)=some (sc (.int (i-j))):=rfl
theorem Dy:cC .Mult (.frz (.int i) n) (.frz (.int j) m)=if(-(2^64)<i/\i<2^64)\/(-(2^64)<j/\j<2^64)then some (sc (.int (i*j)))else if i.natAbs<2^2000/\j.natAbs<2^2000 then some (sc (.int (i*j)))else none:=rfl
theorem D1:cC .FloorDiv (.frz (.int i) n) (.frz (.int j) m)=if 0<j/\j<2^200 then some (sc (.int (i/j)))else none:=rfl
theorem Dz:cC .Mod (.frz (.int i) n) (.frz (.int j) m)=if 0<j then some (sc (.int (i%j)))else none:=rfl
theorem HP:bU .Lt (.int i) (.int j)=some (decide (i<j)):=rfl
theorem HQ:bU .LtE (.int i) (.int j)=some (decide (i<=j)):=rfl
theorem HR:bU .Gt (.int i) (.int j)=some (decide (j<i)):=rfl
theorem Dr:bU .Eq (.int i) (.int j)=some (decide (i=j)):=rfl
theorem Dq:bU .Eq (.str z) (.str y)=some (decide (z=y)):=rfl
end
theorem bE{s:IS}:aX a b (.cons s c) d=(di a b s d).bind λf=>d7 f (aX a b c):=by simp only[wG]
theorem Ai:aX c b .nil a=some (.nx a):=by simp only[wF]
theorem run{P:Nat->Option FD}{k:Nat}(c:P f=some d)(b:a.length=d.np)(h:bv (aX (aC P k) 1000000 d.body (entry d a))=some r):aC P (k+1) f a=some r:=by show(P f).bind _=_;rw[c];show(if a.length=d.np then _ else _)=_;rw[K5 b];exact h
section
variable{a b:RV}{t:String}{n m:Bool}{xs ys:List PV}{i j:Int}{bl:Bool}
theorem fe{k:En->Option Fl}:d7 (.nx c) k=k c:=rfl
theorem Br{v:PV}{k:En->Option Fl}:d7 (.rt v) k=some (.rt v):=rfl
theorem yM:mJ (.bl bl)=some bl:=rfl
theorem AS:DI (.int i)=some i:=rfl
theorem B4:jn (.frz (.str z) n)=some (signs z,true,false):=rfl
theorem B6:jn (.frz (.lst xs) n)=some (xs,n,false):=rfl
theorem B3:jn (.frz (.tup xs) n)=some (xs,n,false):=rfl
theorem B5:jn (.own xs n)=some (xs,n,false):=rfl
theorem B7:jn (.bor (.lst xs))=if imms xs=true then some (xs,true,true)else none:=rfl
theorem JP{k:Nat}:ng true k (.own xs n) c=some (c.set k (.own xs n)):=rfl
theorem Fu{k:Nat}:ng false k (.own xs n) c=some (c.set k (.frz (.lst xs) n)):=rfl
theorem Fv{k:Nat}{o:Bool}{v:PV}:ng o k (.frz v n) c=some (c.set k (.frz v n)):=by cases o<;>rfl
theorem E7:told (.lst xs)=.own xs true:=rfl
theorem E5:told (.tup xs)=.frz (.tup xs) true:=rfl
theorem E8:told (.int i)=.frz (.int i) true:=rfl
theorem E9:told (.bl bl)=.frz (.bl bl) true:=rfl
theorem E6:told .non=.frz .non true:=rfl
theorem Ha:ju .len [a]=(cJ a.val).map λn=>sc (.int (n:Nat)):=rfl
theorem D7:ju (.isin t) [a]=(eN t a.val).map λb=>sc (.bl b):=rfl
theorem BE:ju .list [.frz (.tup xs) n]=some (.own xs n):=rfl
theorem xa:ju .tuple [.own xs n]=some (.frz (.tup xs) n):=rfl
theorem Hb:ju .all [.own xs n]=(jG xs).map λbs=>sc (.bl (bs.all id)):=rfl
theorem HY:ju .min [.frz (.int i) n,.frz (.int j) m]=some (sc (.int (if j<i then j else i))):=rfl
theorem HZ:ju .max [.frz (.int i) n,.frz (.int j) m]=some (sc (.int (if j>i then j else i))):=rfl
theorem BC:ju .sorted [.own xs n]=ee xs:=rfl
theorem BD:ju .sorted [.frz (.lst xs) n]=ee xs:=rfl
theorem HX:ju .str [a]=wR a.val:=rfl
theorem w9:ib .count (.frz (.str z) n) [.frz (.str y) m]=some (sc (.int (Txt.count z y))):=rfl
theorem ix_L(k:Int):index (.frz (.lst xs) n) (.frz (.int k) m)=(dH xs k).map λe=>.frz e (n||imm e):=rfl
theorem ix_T(k:Int):index (.frz (.tup xs) n) (.frz (.int k) m)=(dH xs k).map λe=>.frz e (n||imm e):=rfl
theorem ix_O(k:Int):index (.own xs n) (.frz (.int k) m)=(dH xs k).map λe=>.frz e (n||imm e):=rfl
theorem ix_B(k:Int):index (.bor (.lst xs)) (.frz (.int k) m)=(dH xs k).map fQ:=rfl
theorem ix_S(k:Int)(z:Str):index (.frz (.str z) n) (.frz (.int k) m)=if z.length<=LN then(dH z.cps.toList k).map λc=>sc (.str ⟨#[c]⟩)else none:=rfl
end
theorem qt  :eN "str" .non=some false:=by simp[eN]
theorem tu:eN "str" (.bl b)=some false:=by simp[eN]
theorem qv{i:Int}:eN "str" (.int i)=some false:=by simp[eN]
theorem qr:eN "str" (.str z)=some true:=by simp[eN]
theorem qu:eN "str" (.lst a)=some false:=by simp[eN]
theorem qp:eN "str" (.tup a)=some false:=by simp[eN]
theorem tq:eN "str" (.dK b a)=some false:=by simp[eN]
theorem l5  :eN "tuple" .non=some false:=by simp[eN]
theorem oQ:eN "tuple" (.bl b)=some false:=by simp[eN]
theorem l7{i:Int}:eN "tuple" (.int i)=some false:=by simp[eN]
theorem lz:eN "tuple" (.str z)=some false:=by simp[eN]
theorem l6:eN "tuple" (.lst a)=some false:=by simp[eN]
theorem ly:eN "tuple" (.tup a)=some true:=by simp[eN]
theorem oP:eN "tuple" (.dK b a)=some false:=by simp[eN]
theorem mC  :bU .IsNot .non .non=some false:=rfl
theorem mB:bU .IsNot (.tup a) .non=some true:=rfl
theorem hX{a:Type}{f:PV->Option (Option (PV×Bool))}{h:a->PV}{g:a->PV}:∀{l:List a},(∀x∈l,f (h x)=some (some (g x,true)))->bz f (l.map h)=some (l.map g,true)
 |[],_=>rfl|x::xs,k=>by rw[K8];unfold bz;rw[k x K6,hX λy hy=>k y (Kx _ hy)];rfl
def To(o:Option Fl)(Q:Fl->Prop):Prop:=∃f,o=some f/\Q f
theorem Bp:To (some f) Q↔Q f:=⟨λ⟨g,e,h⟩=>by cases e;exact h,λh=>⟨f,rfl,h⟩⟩
theorem kb{P:Nat->Option FD}{k:Nat}{Q:PV->Prop}(hP:P f=some d)(hl:vs.length=d.np)(h:To (aX (aC P k) 1000000 d.body (entry d vs)) λfl=>∃v,bv (some fl)=some v/\Q v):∃v,aC P (k+1) f vs=some v/\Q v:=by obtain⟨fl,e,v,h1,h2⟩:=h;exact⟨v,run hP hl (by rw[e];exact h1),h2⟩
theorem dP{P:Nat->Option FD}{k:Nat}(hP:P f=some d)(hl:vs.length=d.np)(h:To (aX (aC P k) 1000000 d.body (entry d vs)) λfl=>bv (some fl)=some r):aC P (k+1) f vs=some r:=by obtain⟨fl,e,h1⟩:=h;exact run hP hl (by rw[e];exact h1)
section
variable{cd:Nat->List PV->Option PV}{fu:Nat}{τ:En}{cap:List Nat}{e e2:IE}{i j:Nat}{o one:Bool}{is:List Nat}{c:IC}{a b body:kO}{src:IT}
theorem t9:di cd fu (.asg i o cap e) τ=(aQ cd e (bD cap τ)).bind λr=>(ng o i r (bD cap τ)).map .nx:=by simp only[gM]
theorem t8:di cd fu (.ret cap e) τ=(aQ cd e (bD cap τ)).bind λr=>r.keep.bind λ(v,n)=>if n then some (.rt v)else none:=by simp only[fz]
theorem jU:di cd fu (.ife c a b) τ=(cT cd c τ).bind λr=>if r then aX cd fu a τ else aX cd fu b τ:=by simp only[gF]
def zH(i:Nat)(v:PV)(m:Bool)(d:En):Option Fl:=match d[i]? with
  |some (.own xs n)=>if xs.length<LN then some (.nx (d.set i (.own (xs++[v]) (n&&m))))else none|_=>none
theorem HA:di cd fu (.app i cap e) τ=(aQ cd e (bD cap τ)).bind λr=>r.keep.bind λ(v,m)=>zH i v m (bD cap τ):=by rfl
theorem eA{v:PV}{n m:Bool}{xs:List PV}(h:τ[i]? =some (.own xs n))(d:xs.length<LN):zH i v m τ=some (.nx (τ.set i (.own (xs++[v]) (n&&m)))):=by unfold zH;rw[h];exact K5 d
theorem eG{xs:List PV}{n:Bool}{k:En->Option Fl}{Q:Fl->Prop}(ht:rN cd src (bD cap τ)=some (xs,n,false))(I:Nat->En->Prop)(h0:I 0 (bD cap τ))
  (hs:∀(i:Nat)(x:PV)(τ:En),xs[i]? =some x->I i τ->∃τ1,nU is one n x τ=some τ1/\To (aX cd fu body τ1) λf=>match f with| .nx τ2=>I (i+1) τ2| .ct τ2=>I (i+1) τ2| .bk τ2=>To (k τ2) Q| .rt v=>Q (.rt v))
  (hk:∀τ',I xs.length τ' ->To (k τ') Q):To ((di cd fu (.forr is one cap src body) τ).bind λf=>d7 f k) Q:=by
 obtain⟨fl,e,h⟩:=Dg I (λfl=>To (d7 fl k) Q) h0 (λi x τ hx hI=>by
  obtain⟨τ1,h1,f,h2,h3⟩:=hs i x τ hx hI;refine⟨τ1,f,h1,h2,?_⟩;cases f with
  |nx τ2=>exact h3|ct τ2=>exact h3|bk τ2=>exact h3|rt v=>exact⟨_,rfl,h3⟩) hk
 have e2:di cd fu (.forr is one cap src body) τ=some fl:=by simp only[gH,ht,K2];exact e
 rw[e2];exact h
end
theorem bH:∀l:List Str,imms (l.map PV.str)=true
 |[]=>rfl|x::l=>by rw[K8,imms,bH l];rfl
theorem ik:∀l:List Int,imms (l.map PV.int)=true
 |[]=>rfl|x::l=>by rw[K8,imms,ik l];rfl
theorem xZ{n m:Bool}:cC .Add (.frz (.lst a) n) (.own b m)=fB (a++b) (n&&m):=rfl
theorem xY{n m:Bool}:cC .Add (.own a n) (.own b m)=fB (a++b) (n&&m):=rfl
theorem Gi:qw none=some none:=rfl
theorem Gg{n:Bool}{i:Int}:qw (some (.frz (.int i) n))=some (some i):=rfl
theorem kY{n:Bool}{k:Int}:slice (.frz (.str z) n) none (some k)=if z.length<=LN then(if 0<=k then some (sc (.str ⟨(z.cps.toList.take k.toNat).toArray⟩))else none)else none:=rfl
theorem pz{n:Bool}{k:Int}:slice (.frz (.str z) n) (some k) none=if z.length<=LN then(if 0<=k then some (sc (.str ⟨(z.cps.toList.drop k.toNat).toArray⟩))else none)else none:=rfl
theorem sw{n:Bool}:slice (.frz (.lst a) n) c b=some (.own (cut a c b) (n||imms a)):=rfl
theorem sv{n:Bool}:slice (.own a n) c b=some (.own (cut a c b) (n||imms a)):=rfl
theorem vk{b:Type}(a:List b)(k:Nat):cut a none (some (k:Int))=a.take k:=by
 unfold cut;rw[HT.p7,HT.uw,List.drop_zero,Nat.sub_zero]
 rcases Nat.le_total k a.length with h|h
 ·rw[Nat.min_eq_left h]
 ·rw[Nat.min_eq_right h,Mr (Ky _),Mr h]
theorem eX(P:Nat->Option FD)(k f:Nat)(a:List PV):aC P (k+1) f a=(P f).bind λd=>if a.length=d.np then bv (aX (aC P k) 1000000 d.body (entry d a))else none:=rfl
section
variable{cd:Nat->List PV->Option PV}{fu:Nat}{τ:En}{e e2:IE}{i:Nat}
def Hf(i:Nat)(b:Operator)(y:PV)(a:En):Option Fl:=match a[i]?,y,b with
  |some (.frz (.int x) _),.int y,.Add=>some (.nx (a.set i (.frz (.int (x+y)) true)))|some (.frz (.int x) _),.int y,.Sub=>some (.nx (a.set i (.frz (.int (x-y)) true)))|_,_,_=>none
theorem G9:di cd fu (.aug i a e) τ=(aQ cd e τ).bind λr=>Hf i a r.val τ:=by rfl
theorem vt{n:Bool}(h:τ[i]? =some (.frz (.int x) n)):Hf i .Add (.int y) τ=some (.nx (τ.set i (.frz (.int (x+y)) true))):=by unfold Hf;rw[h]
def setO(i:Nat)(k v:PV)(m:Bool)(a:En):Option Fl:=match k,a[i]? with
  | .int j,some (.own xs n)=>(L2.sH xs.length j).map λq=>.nx (a.set i (.own (xs.set q v) (n&&m)))|y,some (.owd (.dK ks) xs n)=>(gZ y).bind λk=>if xs.length<LN then some (.nx (a.set i (.owd (.dK (iQ ks k)) (putL ks xs k v) (n&&m))))else none|_,_=>none
theorem vd:di cd fu (.seti i a e2 e) τ=(aQ cd e (bD a τ)).bind λr=>r.keep.bind λ(v,m)=>(aQ cd e2 (bD a τ)).bind λx=>setO i x.val v m (bD a τ):=by rfl
theorem set_own{xs:List PV}{n m:Bool}{v:PV}{j:Int}{q:Nat}(h:τ[i]? =some (.own xs n))(a:L2.sH xs.length j=some q):setO i (.int j) v m τ=some (.nx (τ.set i (.own (xs.set q v) (n&&m)))):=by unfold setO;rw[h];dsimp only;rw[a];rfl
theorem yA{c:En->Option Bool}{body:En->Option Fl}(I:Nat->En->Prop)(R:Fl->Prop)(f:∀m a,I m a->∃b,c a=some b/\(b=true->0<m/\∃d,body a=some (.nx d)/\I (m-1) d)/\(b=false->R (.nx a))) :
  ∀(k m:Nat)(a:En),m<k->I m a->∃g,BW c body k a=some g/\R g
 |0,m,a,h,_=>by omega|k+1,m,a,h,h0=>by
  obtain⟨b,o,l,j⟩:=f m a h0;unfold BW;rw[o];cases b with
  |false=>exact⟨_,rfl,j rfl⟩|true =>obtain⟨p,d,e,n⟩:=l rfl;dsimp only[Option.bind];rw[K5 rfl,e];exact yA I R f k (m-1) d (by omega) n
theorem whTo{body:kO}{k:En->Option Fl}(I:Nat->En->Prop)(m:Nat)(hm:m<fu)(h0:I m τ)
  (hs:∀m τ,I m τ->∃b,cT cd c τ=some b/\(b=true->0<m/\To (aX cd fu body τ) λf=>∃τ2,f=.nx τ2/\I (m-1) τ2)/\(b=false->To (k τ) Q)):To ((di cd fu (.whil c body) τ).bind λf=>d7 f k) Q:=by
 obtain⟨fl,e,h⟩:=yA I (λfl=>To (d7 fl k) Q) (λm τ hI=>by obtain⟨b,h1,h2,h3⟩:=hs m τ hI;refine⟨b,h1,λz=> ?_,h3⟩;obtain⟨hm,f,e,τ2,rfl,h4⟩:=h2 z;exact⟨hm,τ2,e,h4⟩) fu m τ hm h0
 have e2:di cd fu (.whil c body) τ=some fl:=by simp only[fq];exact e
 rw[e2];exact h
end
theorem AC{i:Int}:fQ (.int i)=.frz (.int i) true:=rfl
theorem BA{n m:Bool}{k:Int}:cC .Mult (.own a n) (.frz (.int k) m)=if 0<=k/\k<=1000000/\a.length*k.toNat<=LN then some (.own (List.replicate k.toNat a).flatten n)else none:=rfl
theorem KZ{b:Type}{x:b}{a:List b}:L2.dH (x::a) 0=some x:=by have:=bh (xs:=x::a) (j:=0) (v:=x) (by simp);exact this
theorem at_1{b:Type}{x y:b}{a:List b}:L2.dH (x::y::a) 1=some y:=by have:=bh (xs:=x::y::a) (j:=1) (v:=y) (by simp);exact this
theorem Ag(n:Nat)(l:List Int):pA (n+1) (.lst (l.map PV.int))=true:=by show(l.map PV.int).all (pA n)=true;rw[LL];intro x a;obtain⟨i,_,rfl⟩:=LD.mp a;cases n<;>rfl
theorem zB{n i:Nat}(h:((List.range n).map λi=>PV.int (0+(i:Nat)))[i]? =some x):i<n/\x=.int (i:Nat):=by
 rw[LA]at h
 by_cases a:i<n
 ·rw[MB a]at h
  refine⟨a,?_⟩;have:=(LR h).symm
  simpa using this
 ·rw[MX (by simpa using a)]at h
  cases h
theorem CH{n:Nat}:((List.range n).map λi=>PV.int (0+(i:Nat))).length=n:=by simp
theorem kN{i:Nat}(h:(List.zipWith dc (List.range a.length) a)[i]? =some x):∃y,a[i]? =some y/\x=dc i y:=by
 rw[Nb]at h;cases e:a[i]? with
 |none=>rw[e]at h;cases c:(List.range a.length)[i]? <;>rw[c]at h<;>cases h|some y =>rw[e]at h;have b:=(Kw.mp e).1;rw[MB b]at h;exact⟨y,rfl,(LR h).symm⟩
theorem rO:(List.zipWith dc (List.range a.length) a).length=a.length:=by rw[Mg,LX,NC]
theorem oF(c d:Nat):decide ((⟨#[c]⟩:Str)=⟨#[d]⟩)=decide (c=d):=by
 by_cases h:c=d;simp
 ·rw[Ld h,Ld]
  intro e;have:=L5 (λz:Str=>z.cps.toList) e;simp at this;exact h this
theorem om(c:Nat):decide ((⟨#[c]⟩:Str)="x")=(c==120):=by have:=oF c 120;rw[show(⟨#[120]⟩:Str)="x" from rfl]at this;rw[this];rfl
theorem GS:cJ (.dK a b)=some a.length:=rfl
theorem D5{n:Bool}:ju .sumv [.frz (.dK b a) n]=(aU a).map λns=>sc (.int ns.sum):=rfl
theorem eV{a:Type}{f:PV->Option (Option (PV×Bool))}{h:a->PV}{p:a->Bool}{g:a->PV}:∀{l:List a},(∀x∈l,f (h x)=some (if p x then some (g x,true)else none))->bz f (l.map h)=some ((l.filter p).map g,true)
 |[],_=>rfl|x::xs,k=>by
  rw[K8];unfold bz;rw[k x K6,eV λy hy=>k y (Kx _ hy)];cases e:p x
  ·simp[e]
  ·simp[e]
theorem AX{a:List Int}{i:Nat}(h:a.length<=i):a.getD i 0=0:=by rw[Kz,MX h];rfl
theorem oO{n j:Nat}(h:j<n):L2.sH n (j:Int)=some j:=by unfold L2.sH;rw[K5 (by omega),K5 (by omega)];simp
theorem int_at{a:List Int}{i:Nat}(h:(a.map PV.int)[i]? =some y):i<a.length/\y=.int (a.getD i 0)/\a.getD i 0∈a:=by
 rw[LA]at h;cases e:a[i]? with
 |none=>rw[e]at h;cases h|some x =>
  rw[e]at h;cases h;have c:=(Kw.mp e).1;have b:a.getD i 0=x:=by rw[Kz,e];rfl
  exact⟨c,by rw[b],by rw[b];exact K9 e⟩
theorem Jq(n:Nat):(List.replicate n [PV.int 0]).flatten=(List.range n).map λ_=>PV.int 0:=by
 induction n with
 |zero=>rfl|succ n a=>rw[List.replicate_succ',List.flatten_concat,a,List.range_succ,LI];rfl
theorem zz{a:List Int}{i:Nat}(h:i<a.length):dH (a.map PV.int) (i:Int)=some (.int (a.getD i 0)):=bh (by rw[LA,Kz,Kv h];rfl)
theorem nY{i:Int}{n:Nat}(h:((List.range n).map λk=>PV.int (i+(k:Nat)))[j]? =some x):j<n/\x=.int (i+(j:Nat)):=by
 rw[LA]at h
 by_cases a:j<n
 ·rw[MB a]at h
  exact⟨a,(LR h).symm⟩
 ·rw[MX (by simpa using a)]at h
  cases h
abbrev aV:=List (Int×Int)
def bB(c:aV)(k:Int):Option Int:=(c.find? λp=>decide (p.1=k)).map (·.2)
def dF(c:aV)(k v:Int):aV:=if(c.any λp=>decide (p.1=k))=true then c.map (λp=>if p.1=k then(p.1,v)else p)else c++[(k,v)]
def xi(c:aV)(k n:Int):aV:=dF c k ((bB c k).getD 0+n)
def cB(t n:Int)(c:aV)(b:Int):aV:=if Builtin.bitAnd t b=0 then xi c (Builtin.bitOr t b) n else c
def gS(B:List Int)(c:aV)(p:Int×Int):aV:=B.foldl (cB p.1 p.2) c
def upT(B:List Int)(c a:aV):aV:=a.foldl (gS B) c
def wl(a:List aV)(B:List Int):Nat->List aV
 |0=>a++[[]]|i+1=>(wl a B i).set (i+1) (upT B ((wl a B i).getD (i+1) []) (a.getD i []))
def bI(c:aV):List (ah×V):=c.map λp=>(Sum.inl p.1,V.int p.2)
def fF(c:aV):PV:=.dK (c.map λp=>Sum.inl p.1) (c.map λp=>.int p.2)
def pF:List ah->List PV->Option aV
 |[],[]=>some []| .inl k::ks,.int v::vs=>(pF ks vs).map ((k,v)::·)|_,_=>none
def unT:PV->Option aV
 | .dK b a=>pF b a|_=>none
def pc:List PV->Option (List aV)
 |[]=>some []|x::xs=>(unT x).bind λc=>(pc xs).map (c::·)
def bj:List PV->Option PV
 |[.lst ls,.lst bs]=>(pc ls).bind λLs=>(aU bs).bind λB=>if Ls.length<=100/\B.length<=100/\(Ls.all λc=>decide (c.length<=1000))=true then some (.lst ((wl Ls B Ls.length).map fF))else none|_=>none
theorem hR:∀{a:List PV}{b:List Int},aU a=some b->a=b.map PV.int
 |[],b,h=>by cases h;rfl|x::a,b,h=>by
  cases x with
  |int c =>
   have h:(aU a).map (c::·)=some b:=h;cases e:aU a with
   |none=>rw[e]at h;cases h|some d =>rw[e]at h;cases h;rw[hR e];rfl
  |_=>cases h
theorem bW:∀a:List Int,aU (a.map PV.int)=some a
 |[]=>rfl|n::a=>by rw[K8,aU,bW a];rfl
theorem pE:∀{b:List ah}{a:List PV}{c:aV},pF b a=some c->b=c.map (λp=>Sum.inl p.1)/\a=c.map (λp=>.int p.2)
 |[],[],c,h=>by cases h;exact⟨rfl,rfl⟩| .inl k::b,.int v::a,c,h=>by
  have h:(pF b a).map ((k,v)::·)=some c:=h;cases e:pF b a with
  |none=>rw[e]at h;cases h|some d =>rw[e]at h;cases h;obtain⟨g,f⟩:=pE e;exact⟨by rw[g];rfl,by rw[f];rfl⟩
 | .inr z::b,a,c,h=>by cases h|[],v::a,c,h=>by cases h| .inl k::b,[],c,h=>by cases h| .inl k::b,.non::a,c,h=>by cases h| .inl k::b,.bl _::a,c,h=>by cases h| .inl k::b,.str _::a,c,h=>by cases h| .inl k::b,.lst _::a,c,h=>by cases h| .inl k::b,.tup _::a,c,h=>by cases h| .inl k::b,.dK _ _::a,c,h=>by cases h| .inl k::b,.dT _ _::a,c,h=>by cases h
theorem Bl{v:PV}(h:unT v=some c):v=fF c:=by
 cases v with
 |dK e d =>obtain⟨b,a⟩:=pE h;unfold fF;rw[b,a]
 |_=>cases h
theorem pb:∀{d:List PV}{a:List aV},pc d=some a->d=a.map fF
 |[],a,h=>by cases h;rfl|x::xs,a,h=>by
  simp only[pc]at h;cases e:unT x with
  |none=>rw[e]at h;cases h|some c =>
   rw[e]at h;simp only[Option.bind]at h;cases b:pc xs with
   |none=>rw[b]at h;cases h|some r =>rw[b]at h;cases h;rw[Bl e,pb b];rfl
theorem ud:∀c:aV,pF (c.map λp=>Sum.inl p.1) (c.map λp=>.int p.2)=some c
 |[]=>rfl|p::c=>by simp only[K8,pF,ud c];rfl
theorem ug:∀a:List aV,pc (a.map fF)=some a
 |[]=>rfl|c::a=>by simp only[K8,pc,ug a];show(pF _ _).bind _=_;rw[ud];rfl
theorem oa(c:aV)(k:Int):el (bI c) (Sum.inl k)=(bB c k).map V.int:=by
 unfold el bI bB
 induction c with
 |nil=>rfl|cons p c b =>
  rw[K8,Lu,Lu]
  by_cases e:p.1=k;simp[e]
  ·have a :¬((Sum.inl p.1:ah)=Sum.inl k):=λz=>e (Sum.inl.inj z)
   simp only[e,a,NS];exact b
theorem oZ(c:aV)(k v:Int):dS (bI c) (Sum.inl k) (V.int v)=bI (dF c k v):=by
 unfold dS dF;have a:((bI c).any λkv=>decide (kv.1=Sum.inl k))=(c.any λp=>decide (p.1=k)):=by
  unfold bI;rw[List.any_map]
  congr 1
  funext p
  simp
 rw[a]
 split
 ·unfold bI
  rw[Lc,Lc];refine Lr λp _=> ?_
  by_cases e:p.1=k;simp[e];simp[e]
 ·unfold bI
  rw[LI];rfl
theorem ki(c:aV)(k v:Int):(dF c k v).length<=c.length+1:=by
 unfold dF
 split;rw[Kr];omega;simp
theorem wT(t n:Int)(c:aV)(b:Int):(cB t n c b).length<=c.length+1:=by
 unfold cB
 split;exact ki _ _ _;omega
theorem jT(t n:Int):∀(B:List Int)(c:aV),(B.foldl (cB t n) c).length<=c.length+B.length
 |[],c=>by simp|b::B,c=>by rw[List.foldl_cons];have d:=jT t n B (cB t n c b);have a:=wT t n c b;rw[LK];omega
theorem mw(B:List Int):∀(a c:aV),(a.foldl (gS B) c).length<=c.length+a.length*B.length
 |[],c=>by simp|p::a,c=>by rw[List.foldl_cons];have d:=mw B a (gS B c p);have b:(gS B c p).length<=c.length+B.length:=jT p.1 p.2 B c;rw[LK,NA];omega
theorem sQ(a:List aV)(B:List Int):∀i,(wl a B i).length=a.length+1
 |0=>by simp[wl]|i+1=>by rw[wl,Lk];exact sQ a B i
theorem vf(c:aV)(us:List V)(h:us=c.map λp=>V.int p.2):(c.map λp=>(Sum.inl p.1:ah)).zip us=bI c:=by
 subst h;unfold bI
 induction c with
 |nil=>rfl|cons p c a=>rw[K8,K8,Mq,a,K8]
theorem qB{K:W.Frag}{n:Bool}(c:aV){us:List V}:aJ K a n (c.map λp=>PV.int p.2) H us↔us=c.map λp=>V.int p.2:=by
 have d:(c.map λp=>PV.int p.2)=(c.map (·.2)).map PV.int:=by rw[Lc];rfl
 have b:(c.map λp=>V.int p.2)=(c.map (·.2)).map V.int:=by rw[Lc];rfl
 rw[d,b];exact aJ.ints
theorem Ff{K:W.Frag}{n:Bool}(h:Rp K b n (fF c) H u):∃p,u=.ref p/\H p=some (.dK (bI c)):=by obtain⟨p,us,rfl,_,a,d,r⟩:=h;rw[vf c us ((qB c).mp r)]at a;exact⟨p,rfl,a⟩
theorem mS{K:W.Frag}(b:a p=none)(h:H p=some (.dK (bI c))):Rp K a true (fF c) H (.ref p):=by refine⟨p,c.map λp=>V.int p.2,rfl,λ_=>b,by rw[vf c _ rfl];exact h,by simp,(qB c).mpr rfl⟩
def sL(b:Hp)(A:Addr)(a:List Addr)(e:List aV)(H:Hp):Prop :=
 aE b H/\b A=none/\H A=some (.lst (a.map V.ref))/\A∉a/\a.Nodup/\a.length=e.length/\∀(q:Nat)(d:Addr)(c:aV),a[q]? =some d->e[q]? =some c->b d=none/\H d=some (.dK (bI c))
theorem sL.ext{A:Addr}(h:sL e A f a H)(s:aE H b):sL e A f a b :=by obtain⟨m,i,l,o,n,j,g⟩:=h;exact⟨m.trans s,i,s _ _ l,o,n,j,λq d c e1 e2=>⟨(g q d c e1 e2).1,s _ _ (g q d c e1 e2).2⟩⟩
theorem sL.put{A:Addr}{c':aV}(h:sL l A g a H)(f:g[q]? =some d):sL l A g (a.set q c') (L2.upd H d (.dK (bI c'))):=by
 obtain⟨x,s,w,n,r,v,p⟩:=h;have I:=(Kw.mp f).1;have u:a[q]? =some (a[q]'(by omega)):=by simp[show q<a.length by omega]
 obtain⟨m,E⟩:=p q d _ f u;have C:A≠d:=λz=>n (z▸K9 f);refine⟨λb o e=>by rw[aA (aG e m)];exact x b o e,s,by rw[aA C];exact w,n,r,by rw[Lk];exact v,λq' d' c e1 e2=> ?_⟩;rw[N5]at e2
 by_cases e:q=q'
 ·subst e
  rw[f]at e1;cases e1;rw[K5 rfl,K5 (by omega)]at e2;cases e2;exact⟨m,aD⟩
 ·rw[LC e]at e2
  obtain⟨y,D⟩:=p q' d' c e1 e2;refine⟨y,?_⟩;rw[aA λz=>e ?_]
  ·exact D
  ·subst z
   have:=(List.getElem?_inj (j:=q) (Kw.mp e1).1 r).mp (by rw[e1,f]);exact this.symm
theorem sL.at{A:Addr}{q:Nat}(h:sL b A e a H)(f:e[q]? =some d)(g:a[q]? =some c):b d=none/\H d=some (.dK (bI c)):=h.2.2.2.2.2.2 q d c f g
theorem sL.push{v:Hp}{A:Addr}{p:Addr}{c:aV}(h:sL v A a f H)(j:H p=none):sL v A (a++[p]) (f++[c]) (L2.upd (L2.upd H p (.dK (bI c))) A (.lst (a.map V.ref++[.ref p]))):=by
 obtain⟨s,u,y,w,E,J,x⟩:=h;have C:A≠p:=λz=>by rw[z,j]at y;cases y
 have g:p∉a:=λz=>by obtain⟨q,n,e⟩:=M7.mp z;obtain⟨_,i⟩:=x q p (f[q]'(by omega)) (by rw[Kv n,e]) (by simp[show q<f.length by omega]);rw[j]at i;cases i
 refine⟨λb o e=> ?_,u,?_,?_,?_,by simp[J],λq d c' e1 e2=> ?_⟩
 ·rw[aA (aG e u),aA (aG e (s.free j))]
  exact s b o e
 ·rw[aD,LI]
  rfl
 ·intro z
  rcases LP.mp z with z|z
  ·exact w z
  ·exact C (by simpa using z)
 ·rw[MO]
  exact⟨E,by simp,λa ha b hb e=>by
   have:b=p:=by simpa using hb
   rw[this]at e;exact g (e▸ha)⟩
 ·by_cases n:q<a.length
  ·rw[L9 n]at e1
   rw[L9 (by omega)]at e2;obtain⟨L,i⟩:=x q d c' e1 e2;have D:d≠A:=λz=>w (z▸K9 e1);have I:d≠p:=λz=>g (z▸K9 e1);exact⟨L,by rw[aA D,aA I];exact i⟩
  ·rw[M8 (by omega)]at e1
   rw[M8 (by omega)]at e2;have K:q-a.length=0:=by
    cases e:q-a.length with
    |zero=>rfl|succ m=>rw[e]at e1;simp at e1
   rw[K]at e1;rw[show q-f.length=0 by omega]at e2;have l :p=d:=by simpa using e1
   have r :c=c' :=by simpa using e2
   subst l r;exact⟨s.free j,by rw[aA (MC C),aD]⟩
theorem wd{o:HO}{u:HO}(d:H p=none)(f:p≠a):aE (L2.upd H a u) (L2.upd (L2.upd H p o) a u):=λb x e=>by
 by_cases c:b=a
 ·subst c
  rw[aD]at e ⊢;exact e
 ·rw[aA c]at e ⊢
  rw[aA (aG e d)];exact e
theorem ur{K:W.Frag}(h:bJ K (L2.upd H a (.dK d)) b f):bJ K H b f:=by
 have c:∀u,L2.upd H a (.dK d) b=some u->(∀k,u≠.dK k)->H b=some u:=λu e n=>by
  by_cases g:b=a
  ·subst g
   rw[aD]at e;exact absurd (LR e).symm (n _)
  ·rw[aA g]at e
   exact e
 rcases h with(h|⟨o,h⟩)|h
 ·exact .inl (.inl (c _ h λk z=>by cases z))
 ·exact .inl (.inr ⟨o,c _ h λk z=>by cases z⟩)
 ·exact .inr h
theorem Dk{j:Nat}{k:ah}(h:(bI c)[j]? =some (k,x)):∃t n,c[j]? =some (t,n)/\k=.inl t/\x=.int n:=by
 unfold bI at h;rw[LA]at h;cases e:c[j]? with
 |none=>rw[e]at h;cases h|some p =>rw[e]at h;have:=LR h;cases this;exact⟨p.1,p.2,rfl,rfl,rfl⟩
theorem rQ(c:aV):(bI c).length=c.length:=by unfold bI;rw[Kr]
theorem EG(a:List aV)(B:List Int):∀(i j:Nat),i<j->(wl a B i)[j]? =(a++[[]])[j]?
 |0,j,h=>rfl|i+1,j,h=>by rw[wl,Lf (by omega)];exact EG a B i j (by omega)
theorem yC(h:a≠b):L2.upd (L2.upd H a x) b y=L2.upd (L2.upd H b y) a x:=by
 funext c
 unfold L2.upd
 by_cases d:c=a
 ·subst d
  rw[LC h,K5 rfl,K5 rfl]
 ·by_cases e:c=b
  ·subst e
   rw[K5 rfl,LC d,K5 rfl]
  ·rw[LC e,LC d,LC d,LC e]
theorem qA{K:W.Frag}{e:Hp}{H:Hp}:∀{a:List aV}{b:List Addr},b.length=a.length->(∀(q:Nat)(d:Addr)(c:aV),b[q]? =some d->a[q]? =some c->e d=none/\H d=some (.dK (bI c)))->aJ K e true (a.map fF) H (b.map V.ref)
 |[],[],_,_=>.nil|c::a,d::b,hl,h=>by obtain⟨f,g⟩:=h 0 d c rfl rfl;exact .cons (mS f g) (qA (by simpa using hl) λq d' c' e1 e2=>h (q+1) d' c' (by simpa using e1) (by simpa using e2))
 |[],_::_,hl,_=>by cases hl|_::_,[],hl,_=>by cases hl
section
variable{X:Cx}{Hi:Hp}{τ:En}{cd:Nat->List PV->Option PV}{ct:Ct}{O:List Addr}{σ:L2.St}{H H' :Hp}{D:cO}
theorem GI(C:bS cd X ct)(c:X.fn=λ_=>true){n:Nat}(g:o9 n ct b=d)(h:di cd f d τ=some (.nx a))(R:aY X.K Hi O τ σ H)(e:σ.length=X.N.length)(q:sE X Hi O H a D.nx):WS X b D σ H:=by subst g;exact(BL n).s X ct Hi τ b _ C c h O σ H D R e q
theorem rt_w(C:bS cd X ct)(c:X.fn=λ_=>true){n fu:Nat}{s':IS}{v:PV}(e:o9 n ct b=s')(h:di cd fu s' τ=some (.rt v))(R:aY X.K Hi O τ σ H)(d:σ.length=X.N.length)(q:∀u a,aE Hi a ->Rp X.K Hi true v a u->D.rt u a):WS X b D σ H:=by subst e;exact(BL n).s X ct Hi τ b _ C c h O σ H D R d q
theorem e_w(C:bS cd X ct){n:Nat}{e':IE}{r:RV}(b:aj n ct e=e')(h:aQ cd e' τ=some r)(R:aY X.K Hi O τ σ H)(q:∀u a,aE H a ->ae X.K Hi O H a r u->Q u a):WE X e σ H Q:=by subst b;exact(cL n).e X ct Hi τ e r C h O σ H Q R q
theorem lH(C:bS cd X ct){n:Nat}{c':IC}{t:Bool}(f:lr n ct c=c')(d:cT cd c' τ=some t)(R:aY X.K Hi O τ σ H)(g:t=true->∀G,aE H G->Ba X a D σ G)(e:t=false->∀G,aE H G->Ba X b D σ G):WS X (.If c a b pos) D σ H:=by
 refine ws (gW kj ay ay) ?_;rw[<- f]at d;refine(cL n).c X ct Hi τ c t C d O σ H _ R λG s=> ?_;cases t with
 |true=>exact gP (g rfl G s)|false=>exact ij (e rfl G s)
theorem aJ.strs2{K:W.Frag}{n:Bool}{H:Hp}:∀{a:List Str},aJ K Hi n (a.map PV.str) H (a.map V.str)
 |[]=>.nil|x::a=>.cons (Rp.str.mpr rfl) aJ.strs2
end
end IR
namespace IR
open PySem
set_option tactic.hygienic false
theorem rj(a:Nat):Builtin.bitNot (a:Int)= -(a:Int)-1:=by unfold Builtin.bitNot;omega
theorem Dv(a b:Nat):Builtin.bitOr (a:Int) (b:Int)=((a ||| b:Nat):Int):=by
 unfold Builtin.bitOr Builtin.bitAnd;rw[rj,rj];have d:decide ((0:Int)<= -a-1)=false:=by simp;omega
 have c:decide ((0:Int)<= -b-1)=false:=by simp;omega
 rw[d,c];have f:(Builtin.bitNot (-a-1)).toNat=a:=by unfold Builtin.bitNot;omega
 have e:(Builtin.bitNot (-b-1)).toNat=b:=by unfold Builtin.bitNot;omega
 rw[f,e];unfold Builtin.bitNot;omega
theorem fM:∀(n:Nat)(l:List Nat),l.Nodup->(∀x∈l,x<n)->l.length<=n
 |0,l,_,h=>by
  cases l with
  |nil=>simp|cons x l=>exact absurd (h x K6) (by omega)
 |n+1,l,nd,h=>by
  by_cases a:n∈l
  ·have b:=fM n (l.erase n) (nd.erase n) λx hx=>by
    have:=(nd.mem_erase_iff).mp hx;have:=h x this.2;omega
   rw[List.length_erase_of_mem a]at b;omega
  ·have:=fM n l nd λx hx=>by
    have c:=h x hx;have:x≠n:=λz=>a (z▸hx);omega
   omega
def cN(c:aV):Prop:=(c.map (·.1)).Nodup/\∀p∈c,(∃n:Nat,p.1=(n:Int)/\n<256)/\0<p.2
theorem cN.len(h:cN c):c.length<=256:=by
 have i:((c.map (·.1)).map Int.toNat).Nodup:=by rw[List.nodup_iff_pairwise_ne,List.pairwise_map];refine(List.nodup_iff_pairwise_ne.mp h.1).imp_of_mem λ{a b} ha hb hne e=>hne ?_;obtain⟨p,f,rfl⟩:=LD.mp ha;obtain⟨q,l,rfl⟩:=LD.mp hb;obtain⟨⟨m,d,_⟩,_⟩:=h.2 p f;obtain⟨⟨n,g,_⟩,_⟩:=h.2 q l;omega
 have:=fM 256 _ i λx hx=>by obtain⟨y,j,rfl⟩:=LD.mp hx;obtain⟨p,f,rfl⟩:=LD.mp j;obtain⟨⟨m,d,o⟩,_⟩:=h.2 p f;omega
 simpa using this
theorem vv{c:aV}{k:Int}:(c.any λp=>decide (p.1=k))=true↔k∈c.map (·.1):=by
 rw[MR,LD]
 constructor
 ·rintro⟨p,a,e⟩
  exact⟨p,a,LJ e⟩
 ·rintro⟨p,a,e⟩
  exact⟨p,a,LU e⟩
theorem Dd{k:Int}(h:k∈c.map (·.1)):∃v,bB c k=some v/\(k,v)∈c:=by
 unfold bB
 induction c with
 |nil=>cases h|cons p c f =>
  rw[Lu]
  by_cases e:p.1=k
  ·refine⟨p.2,by simp[e],?_⟩
   subst e;exact K6
  ·have b :k∈c.map (·.1):=by
    rcases LB.mp h with z|z
    ·exact absurd z.symm e
    ·exact z
   obtain⟨v,d,a⟩:=f b;refine⟨v,?_,Kx _ a⟩;simp only[e,NS];exact d
theorem AW{k:Int}(h:k∉c.map (·.1)):bB c k=none:=by
 unfold bB;rw[List.find?_eq_none.mpr];rfl
 ·intro p a e
  exact h (LD.mpr ⟨p,a,LJ e⟩)
theorem CW{k v:Int}(h:k∈c.map (·.1)):dF c k v=c.map (λp=>if p.1=k then(p.1,v)else p):=by unfold dF;rw[K5 (vv.mpr h)]
theorem zF{k v:Int}(h:k∉c.map (·.1)):dF c k v=c++[(k,v)]:=by unfold dF;rw[LC λz=>h (vv.mp z)]
theorem xh(h:cN c){m:Nat}(j:m<256){n:Int}(r:0<n):cN (xi c (m:Int) n):=by
 unfold xi
 by_cases d:((m:Int))∈c.map (·.1)
 ·obtain⟨v,q,a⟩:=Dd d
  rw[CW d,q];have e:(c.map (λp=>if p.1=(m:Int)then(p.1,(some v).getD 0+n)else p)).map (·.1)=c.map (·.1):=by
   rw[Lc];refine Lr λp _=> ?_;dsimp only[Function.comp]
   split<;>rfl
  refine⟨by rw[e];exact h.1,λp hp=> ?_⟩;obtain⟨o,f,rfl⟩:=LD.mp hp;obtain⟨i,l⟩:=h.2 o f
  split
  ·refine⟨i,?_⟩
   have:=(h.2 _ a).2;show 0<v+n;omega
  ·exact⟨i,l⟩
 ·rw[zF d,AW d]
  refine⟨?_,λp hp=> ?_⟩
  ·rw[LI,MO]
   refine⟨h.1,by simp,λa ha b g e=> ?_⟩;have g:b=m:=by simpa using g
   rw[g]at e;rw[e]at ha;exact d ha
  ·rcases LP.mp hp with z|z
   ·exact h.2 p z
   ·have:p=((m:Int),none.getD 0+n):=by simpa using z
    rw[this];exact⟨⟨m,rfl,j⟩,by show 0<0+n;omega⟩
def gg(B:List Int):Prop:=∀b∈B,∃n:Nat,b=((2^n:Nat):Int)/\n<8
theorem JS(d:a<256)(c:b<256):a ||| b<256:=Nat.or_lt_two_pow (n:=8) d c
theorem sr(h:cN c){t:Nat}(a:t<256){n:Int}(b:0<n)(d:j<8):cN (cB (t:Int) n c ((2^j:Nat):Int)):=by
 unfold cB
 split
 ·rw[Dv]
  exact xh h (JS a (Nat.pow_lt_pow_right (by decide) (show j<8 from d))) b
 ·exact h
theorem lM{t:Nat}(a:t<256){n:Int}(d:0<n):∀{B:List Int}{c:aV},gg B->cN c->cN (B.foldl (cB (t:Int) n) c)
 |[],c,_,h=>h|b::B,c,hB,h=>by obtain⟨j,rfl,e⟩:=hB b K6;exact lM (B:=B) a d (λb hb=>hB b (Kx _ hb)) (sr h a d e)
theorem pY{B:List Int}(a:gg B):∀{lev c:aV},cN lev->cN c->cN (upT B c lev)
 |[],c,_,h=>h|p::lev,c,hl,h=>by
  obtain⟨⟨t,f,d⟩,b⟩:=hl.2 p K6;have e:cN (gS B c p):=by unfold gS;rw[f];exact lM d b a h
  exact pY (lev:=lev) a ⟨(Lo.mp (show(p.1::lev.map (·.1)).Nodup from hl.1)).2,λq hq=>hl.2 q (Kx _ hq)⟩ e
theorem lJ:cN []:=⟨by simp,λp hp=>by cases hp⟩
theorem ue{a:List aV}{B:List Int}(b:gg B)(h:∀c∈a,cN c):∀i,∀c∈wl a B i,cN c
 |0,c,hc=>by
  rcases LP.mp hc with z|z
  ·exact h c z
  ·have:c=[]:=by simpa using z
   rw[this];exact lJ
 |i+1,c,hc=>by
  have f:=ue b h i
  rcases Nz hc with z|z
  ·exact f c z
  ·rw[z]
   refine pY b ?_ ?_
   ·rw[Kz]
    cases e:a[i]? with
    |none=>exact lJ|some d=>exact h d (K9 e)
   ·rw[Kz]
    cases e:(wl a B i)[i+1]? with
    |none=>exact lJ|some d=>exact f d (K9 e)
def fC(a:List (List Int)):List aV:=a.foldl (λLs B=>wl Ls B Ls.length) [[(0,1)]]
theorem jQ(a:List (List Int))(B:List Int):fC (a++[B])=wl (fC a) B (fC a).length:=by unfold fC;rw[List.foldl_append];rfl
theorem fU{a:Type}{P:List a->Prop}(b:P [])(c:∀l x,P l->P (l++[x])):∀l,P l:=by
 intro l;have:∀r:List a,P r.reverse:=by
  intro r
  induction r with
  |nil=>exact b|cons x r d=>rw[NU];exact c _ _ d
 have:=this l.reverse
 rwa [List.reverse_reverse]at this
theorem fi(h:∀B∈Bs,gg B):(fC Bs).length=Bs.length+1/\∀c∈fC Bs,cN c:=by
 revert h
 refine fU (P:=λBs=>(∀B∈Bs,gg B)->(fC Bs).length=Bs.length+1/\∀c∈fC Bs,cN c) ?_ ?_ Bs
 ·intro _
  refine⟨rfl,λc hc=> ?_⟩;have:c=[(0,1)]:=by simpa [fC]using hc
  rw[this];refine⟨by simp,λp hp=> ?_⟩;have:p=(0,1):=by simpa using hp
  rw[this];exact⟨⟨0,rfl,by decide⟩,by decide⟩
 ·intro l B ih h
  obtain⟨h1,h2⟩:=ih λB hB=>h B (LQ _ hB);rw[jQ];refine⟨by rw[sQ,h1,K7];simp,ue (h B (by simp)) h2 _⟩
def yX(c:aV):Int:=(c.map (·.2)).sum
def Fi(a:List aV):List Int:=(a.filter λc=>decide (0<c.length)).map yX
def Ip{a:Type}(l:List a)(f:a->Int):Int:=(l.map f).sum
abbrev jm:=Nat×Nat
def Hd(cells:List jm)(k:Nat):List jm:=(cells.drop (k+1)).filter λc=>decide ((cells.getD k (0,0)).1<c.1)
def pl:Nat->List jm->List Int->Nat->Int
 |_,_,_,0=>1|0,_,_,_+1=>0|n+1,cells,T,j+1=>Ip (List.range cells.length) λk=>if T.contains ((cells.getD k (0,0)).2:Int)then 0 else pl n (Hd cells k) (T++[((cells.getD k (0,0)).2:Int)]) j
def ef(z:Str):List Nat:=(List.range z.length).filter λc=>z.cps.toList.getD c 0==120
def att(a b:jm):Bool:=a.1==b.1||a.2==b.2
def qS(x:jm)(l:List jm):List jm:=l.filter λy=> !att x y
def Iq(f:jm->List jm->Int):List jm->Int
 |[]=>0|x::xs=>f x xs+Iq f xs
def rk:Nat->List jm->Int
 |0=>λ_=>1|k+1=>Iq λx xs=>rk k (qS x xs)
def freeC(T:List Nat)(l:List jm):List jm:=l.filter λc=> !T.contains c.2
end IR
namespace IR
open PySem L2
def bk(w j:Nat):Nat:=if j<w then w-1-j else j
def wP(f:Nat->Int):Nat->Int
 |0=>0|n+1=>wP f n+f n
def ch:Nat->Nat->Nat
 |_,0=>1|0,_+1=>0|n+1,k+1=>ch n (k+1)+ch n k
def fl:Nat->Nat->Nat
 |_,0=>1|n,k+1=>n*fl (n-1) k
set_option tactic.hygienic false
theorem oj:∀n k,n<k->ch n k=0
 |n,0,h=>by omega|0,k+1,_=>by rw[ch]|n+1,k+1,h=>by rw[ch,oj n (k+1) (by omega),oj n k (by omega)]
theorem jD(n:Nat):ch n 0=1:=by cases n<;>rfl
theorem i8(n k:Nat):fl (n+1) (k+1)=(n+1)*fl n k:=by rfl
theorem vm:∀n k,(n+1)*ch n k=(k+1)*ch (n+1) (k+1)
 |0,0=>rfl|0,k+1=>by simp[ch]|n+1,0=>by have:=vm n 0;rw[jD]at this;rw[jD,ch,jD];omega
 |n+1,k+1=>by
  have b:=vm n (k+1);have a:=vm n k;have e:ch (n+2) (k+2)=ch (n+1) (k+2)+ch (n+1) (k+1):=by rw[ch]
  have d:ch (n+1) (k+1)=ch n (k+1)+ch n k:=by rw[ch]
  rw[e,Nat.mul_add,<-b];have c:(k+2)*ch (n+1) (k+1)=(n+1)*ch n k+ch (n+1) (k+1):=by rw[a];omega
  rw[c,d];omega
theorem Ed:∀k n,fl n k=ch n k*fl k k
 |0,n=>by rw[jD];rfl|k+1,0=>by rw[fl,ch];simp|k+1,n+1=>by rw[i8,i8,Ed k n,<-Nat.mul_assoc,vm n k,<-Nat.mul_assoc,Nat.mul_comm (k+1)]
theorem t7:∀k n,k<=n->0<fl n k
 |0,n,_=>by rw[fl];omega|k+1,0,h=>by omega|k+1,n+1,h=>by rw[i8];exact Nat.mul_pos (by omega) (t7 k n (by omega))
def fn(m n k:Nat):Int:=((ch m k*fl n k:Nat):Int)
def FW(j:Nat):Int:=if j%2=0 then 1 else -1
theorem vb:∀(k n:Nat),((fl n (k+1):Nat):Int)=(fl n k:Int)*((n:Int)-k)
 |0,n=>by simp[fl]|k+1,0=>by rw[fl,fl];simp|k+1,n+1=>by
  rw[i8 n (k+1),i8 n k]
  push_cast
  rw[vb k n,Int.mul_assoc]
  congr 2
  omega
theorem vo:∀n k,ch n k<=2^n
 |n,0=>by rw[jD];exact Nat.one_le_two_pow|0,k+1=>by rw[ch];exact LY _|n+1,k+1=>by have a:=vo n (k+1);have b:=vo n k;rw[ch,Nat.pow_succ];omega
theorem fl8:∀k,k<9->fl k k<50000:=by decide
theorem HS{n k:Nat}(h:k<=n):(fl n k:Int)/(fl k k:Int)=(ch n k:Int):=by
 have:=t7 k k (Ky _);rw[Ed k n]
 push_cast
 exact Int.mul_ediv_cancel _ (by omega)
theorem Ae:∀(k n:Nat),fl n k<=n^k
 |0,n=>by rw[fl,Nat.pow_zero];exact Ky _|k+1,n=>by rw[fl,Nat.pow_succ,Nat.mul_comm];exact M5 _ (LM (Ae k (n-1)) (Nat.pow_le_pow_left (by omega) k))
section
variable(b:Nat->Nat->Bool)
def hit:List Nat->List Nat->Nat->Int
 |[],_,j=>if j=0 then 1 else 0|i::L,C,j=>Ip C λc=>if b i c then(if j=0 then 0 else hit L (C.erase c) (j-1))else hit L (C.erase c) j
end
def DX(r:Nat->Int)(m n j:Nat):Int:=wP (λt=>FW t*((ch (j+t) j:Int)*(r (j+t)*(fl (n-(j+t)) (m-(j+t)):Int)))) (m+1-j)
section
variable(b:Nat->Nat->Bool)
def hcN(i:Nat)(t:List Nat):Nat:=((List.range i).filter λl=>b l (t.getD l 0)).length
end
def fx(x:Int):Nat->Int
 |0=>1|m+1=>fx x m*(x-m)
end IR
namespace IR
open PySem L2
def gO(a:List Nat):List Nat:=List.replicate (8-a.length) 0++a
set_option tactic.hygienic false
theorem zZ(h:a.length<=8):(gO a).length=8:=by unfold gO;rw[K7,Mx];omega
end IR
namespace IR
open PySem
set_option tactic.hygienic false
theorem oR{H:aV}(c:(H.map (·.1)).Nodup)(f:p∈H)(g:q∈H)(e:p.1=q.1):p=q:=by
 induction H with
 |nil=>cases f|cons x H i =>
  rw[K8,Lo]at c
  rcases LB.mp f with h|b
  ·rcases LB.mp g with d|a
   ·rw[h,d]
   ·exact absurd (show x.1∈H.map (·.1)from LD.mpr ⟨q,a,by rw[<- e,h]⟩) c.1
  ·rcases LB.mp g with d|a
   ·exact absurd (show x.1∈H.map (·.1)from LD.mpr ⟨p,b,by rw[e,d]⟩) c.1
   ·exact i c.2 b a
theorem gu{U:List Int}(nd:T.Nodup)(h:T ⊆ U):T.length<=U.length:=by
 induction T generalizing U with
 |nil=>exact LY _|cons x T ih =>obtain⟨n1,n2⟩:=Lo.mp nd;have hx:=h K6;have:=ih n2 λy hy=>(List.mem_erase_of_ne (λz:y=x=>n1 (by rw[<- z];exact hy))).mpr (h (Kx _ hy));rw[List.length_erase_of_mem hx]at this;have:=List.length_pos_of_mem hx;rw[LK];omega
theorem eD(h:bB H c=some r):(c,r)∈H:=by
 unfold bB at h;cases e:H.find? λp=>decide (p.1=c)with
 |none=>rw[e]at h;cases h|some p =>rw[e]at h;have a:=List.find?_some e;have b:=List.mem_of_find?_eq_some e;have a:=LJ a;have h:=LR h;rw[<- a,<-h];exact b
theorem fm:bB H c=none↔c∉H.map (·.1):=by
 unfold bB;rw[Option.map_eq_none_iff,List.find?_eq_none]
 constructor
 ·intro h b
  obtain⟨p,a,rfl⟩:=LD.mp b;exact h p a (LU rfl)
 ·intro h p a e
  exact h (LD.mpr ⟨p,a,LJ e⟩)
theorem Dc{r:Int}(a:(H.map (·.1)).Nodup)(h:(c,r)∈H):bB H c=some r:=by
 cases e:bB H c with
 |none=>exact absurd (LD.mpr ⟨_,h,rfl⟩) (fm.mp e)|some d =>have b :=eD e;have:=oR a h b rfl;rw[show d =r from(L5 Prod.snd this).symm]
theorem qI(h:bB H c=none):dF H c r=H++[(c,r)]:=by unfold dF;rw[LC];intro z;rw[MR]at z;obtain⟨p,a,e⟩:=z;exact fm.mp h (LD.mpr ⟨p,a,LJ e⟩)
theorem zG{i r:Int}:∀{H:aV},(H.map (·.1)).Nodup->bB H c=some i ->∃d b,H=d++(c,i)::b/\dF H c r=d++(c,r)::b:=by
 intro H f h;have g:=eD h;obtain⟨d,b,e⟩:=List.append_of_mem g;refine⟨d,b,e,?_⟩;unfold dF;rw[K5 (MR.mpr ⟨_,g,LU rfl⟩),e,LI,K8,K5 rfl];rw[e,LI,K8]at f;have j:=λp hp z=>(MO.mp f).2.2 p.1 (LD.mpr ⟨p,hp,rfl⟩) c K6 z;have m:∀p∈b,p.1≠c:=λp hp z=>(Lo.mp (MO.mp f).2.1).1 (z▸LD.mpr ⟨p,hp,rfl⟩);have a:∀l:aV,(∀p∈l,p.1≠c)->l.map (λp=>if p.1=c then(p.1,r)else p)=l:=λl hl=>by
  conv=>rhs;rw[<- List.map_id l]
  exact Lr λp hp=>LC (hl p hp)
 rw[a d j,a b m]
set_option tactic.hygienic true
theorem i6:bB (dF H c r) d=if d=c then some r else bB H d:=by
 by_cases b:d=c
 ·subst b
  rw[K5 rfl];unfold dF
  split
  ·rename_i h
   induction H with
   |nil=>cases h|cons p H i =>
    rw[K8];unfold bB;rw[Lu]
    by_cases e:p.1=d;simp[e]
    ·rw[LC e]
     simp only[e,NS];rw[Mw,Ld e,Bool.false_or]at h;exact i h
  ·rename_i h
   unfold bB;rw[List.find?_append];have:(H.find? λp=>decide (p.1=d))=none:=by rw[List.find?_eq_none];intro p g e;exact h (MR.mpr ⟨p,g,e⟩)
   rw[this];simp
 ·rw[LC b]
  unfold dF
  split
  ·unfold bB
   induction H with
   |nil=>rfl|cons p H i =>
    rename_i h;rw[K8,Lu,Lu];have a:((H.map λp=>if p.1=c then(p.1,r)else p).find? λp=>decide (p.1=d)).map (·.2)=(H.find? λp=>decide (p.1=d)).map (·.2):=by
     by_cases j :(H.any λp=>decide (p.1=c))=true
     ·exact i j
     ·have:(H.map λp=>if p.1=c then(p.1,r)else p)=H:=by
       conv=>rhs;rw[<- List.map_id H]
       refine Lr λp g=>LC λe=>j ?_;exact MR.mpr ⟨p,g,LU e⟩
      rw[this]
    by_cases e:p.1=c
    ·rw[K5 e]
     have f:¬p.1=d:=λz=>b (z.symm.trans e);simp only[f,NS];exact a
    ·rw[LC e]
     by_cases f:p.1=d;simp[f]
     ·simp only[f,NS]
      exact a
  ·unfold bB
   have:¬c=d:=λz=>b z.symm;simp[this]
def gc(C:List (List Int))(r:Int):List Int:=C.getD r.toNat []
def iK(b:aV->Int->List Int->Bool×aV×List Int)(a:Int):List Int->aV->List Int->Bool×aV×List Int
 |[],H,T=>(false,H,T)|c::cs,H,T=>if T.contains c then iK b a cs H T else match bB H c with
  |none=>(true,dF H c a,T++[c])|some r=>match b H r (T++[c])with
   |(true,H',T')=>(true,dF H' c a,T')|(false,H',T')=>iK b a cs H' T'
def tk(C:List (List Int)):Nat->aV->Int->List Int->Bool×aV×List Int
 |0,H,_,T=>(false,H,T)|n+1,H,row,T=>iK (tk C n) row (gc C row) H T
structure Mt(C:List (List Int))(H:aV):Prop where
 keys:(H.map (·.1)).Nodup
 rows:(H.map (·.2)).Nodup
 edge:∀p∈H,p.1∈gc C p.2
structure Mt0(C:List (List Int))(H:aV):Prop where
 keys:(H.map (·.1)).Nodup
 edge:∀p∈H,p.1∈gc C p.2
structure Kc(C:List (List Int))(H:aV)(row:Int)(T:List Int)(H' :aV):Prop where
 good:Mt0 C H'
 rows:(H'.map (·.2)).Perm (row::H.map (·.2))
 keys:∀c,c∈H.map (·.1)->c∈H'.map (·.1)
 stay:∀c∈T,bB H' c=bB H c
theorem sd{C:List (List Int)}{rec:aV->Int->List Int->Bool×aV×List Int}{row:Int}
  (hr:∀H r T b H' T',Mt0 C H->rec H r T=(b,H',T')->T ⊆ T' /\(b=false->H' =H)/\(b=true->Kc C H r T H')) :
  ∀{cs:List Int}{H:aV}{T:List Int}{b:Bool}{H' :aV}{T' :List Int},(∀c∈cs,c∈gc C row)->Mt0 C H->iK rec row cs H T=(b,H',T')->T ⊆ T' /\(b=false->H' =H)/\(b=true->Kc C H row T H')
 |[],H,T,b,H',T',hc,m,h=>by cases h;exact⟨λ_ z=>z,λ_=>rfl,λz=>by cases z⟩
 |c::cs,H,T,b,H',T',hc,m,h=>by
  unfold iK at h
  split at h;exact sd hr (λd hd=>hc d (Kx _ hd)) m h
  ·rename_i hT
   have hT:c∉T:=λz=>hT (Lh.mpr z)
   split at h
   ·rename_i e
    cases h;refine⟨List.subset_append_left _ _,(λz=>by cases z),λ_=> ?_⟩;rw[qI e];refine⟨⟨?_,λp hp=> ?_⟩,?_,λd hd=> ?_,λd hd=> ?_⟩
    ·rw[LI,MO]
     refine⟨m.keys,by simp,λa ha x hx z=> ?_⟩;rw[List.map_singleton,LF]at hx;subst hx z;exact fm.mp e ha
    ·rcases LP.mp hp with z|z
     ·exact m.edge p z
     ·rw[LF.mp z]
      exact hc c K6
    ·rw[LI]
     exact List.perm_append_comm
    ·rw[LI]
     exact LQ _ hd
    ·rw[<- qI e,i6,LC (λz:d=c=>hT (by rw[<- z];exact hd))]
   ·rename_i r e
    cases hq:rec H r (T++[c])with
    |mk b1 w =>
     obtain⟨H1,T1⟩:=w;rw[hq]at h;obtain⟨k1,k2,k3⟩:=hr H r (T++[c]) b1 H1 T1 m hq;cases b1 with
     |false =>have e1:=k2 rfl;subst e1;obtain⟨j1,j2,j3⟩:=sd hr (λd hd=>hc d (Kx _ hd)) m h;have sub:T ⊆ T1:=λx hx=>k1 (LQ _ hx);exact⟨λx hx=>j1 (sub hx),j2,λz=>by obtain⟨w1,w2,w3,w4⟩:=j3 z;exact⟨w1,w2,w3,λd hd=>w4 d (sub hd)⟩⟩
     |true =>
      cases h;obtain⟨w1,w2,w3,w4⟩:=k3 rfl;refine⟨λx hx=>k1 (LQ _ hx),(λz=>by cases z),λ_=> ?_⟩;have e2:bB H1 c=some r:=by rw[w4 c (by simp),e]
      obtain⟨l1,l2,e3,e4⟩:=zG w1.keys e2;rw[e3]at w2;refine⟨⟨?_,λp hp=> ?_⟩,?_,λd hd=> ?_,λd hd=> ?_⟩
      ·have:=w1.keys
       rw[e3]at this;rw[e4]
       simpa using this
      ·rw[e4]at hp
       rcases LP.mp hp with z|z
       ·exact w1.edge p (by rw[e3];exact LQ _ z)
       ·rcases LB.mp z with z|z
        ·rw[z]
         exact hc c K6
        ·exact w1.edge p (by rw[e3];exact Lb _ (Kx _ z))
      ·rw[e4,LI,K8]
       rw[LI,K8]at w2;have a1:(l1.map (·.2)++r::l2.map (·.2)).Perm (r::(l1.map (·.2)++l2.map (·.2))):=List.perm_middle;have a2:=(List.perm_cons r).mp (a1.symm.trans w2);have a3:(l1.map (·.2)++row::l2.map (·.2)).Perm (row::(l1.map (·.2)++l2.map (·.2))):=List.perm_middle;exact a3.trans (a2.cons row)
      ·have:=w3 d hd
       rw[e3]at this;rw[e4]
       simpa using this
      ·rw[i6,LC (λz:d=c=>hT (by rw[<- z];exact hd))]
       exact w4 d (LQ _ hd)
set_option tactic.hygienic false
theorem EI{C:List (List Int)}:∀{n:Nat}{H:aV}{a:Int}{T:List Int}{b:Bool}{c :aV}{d :List Int},Mt0 C H->tk C n H a T=(b,c,d)->T ⊆ d /\(b=false->c =H)/\(b=true->Kc C H a T c)
 |0,H,a,T,b,c,d,m,h=>by cases h;exact⟨λ_ z=>z,λ_=>rfl,λz=>by cases z⟩
 |n+1,H,a,T,b,c,d,m,h=>sd (λH r T b c d m h=>EI m h) (λc hc=>hc) m h
theorem Kc.mt(w:Kc C H a T b)(m:Mt C H)(c:a∉H.map (·.2)):Mt C b := ⟨w.good.keys,w.rows.nodup_iff.mpr (Lo.mpr ⟨c,m.rows⟩),w.good.edge⟩
def eZ(C:List (List Int))(H:aV)(S:List Int):Prop:=∀c∈S,∃r,bB H c=some r/\∀d∈gc C r,d∈S
set_option tactic.hygienic true in
theorem sf{C:List (List Int)}{i:aV->Int->List Int->Bool×aV×List Int}{s:Int}{n:Nat}
  (o:∀H r T f a,T.Nodup->(∀c∈T,0<=c/\c<8)->8<n+T.length->i H r T=(false,f,a)->f =H/\T ⊆ a /\a.Nodup/\(∀c∈a,0<=c/\c<8)/\(∀d∈gc C r,d∈a)/\∀c∈a,c∈T\/∃q,bB H c=some q/\∀d∈gc C q,d∈a) :
  ∀{l:List Int}{H:aV}{T:List Int}{f :aV}{a :List Int},(∀c∈l,0<=c/\c<8)->T.Nodup->(∀c∈T,0<=c/\c<8)->8<n+1+T.length->iK i s l H T=(false,f,a) -> f =H/\T ⊆ a /\a.Nodup/\(∀c∈a,0<=c/\c<8)/\(∀d∈l,d∈a)/\∀c∈a,c∈T\/∃q,bB H c=some q/\∀d∈gc C q,d∈a
 |[],H,T,f,a,_,nd,bd,_,h=>by cases h;exact⟨rfl,λ_ z=>z,nd,bd,λd b=>(by cases b),λc hc=>.inl hc⟩
 |c::l,H,T,f,a,hc,nd,bd,hn,h=>by
  unfold iK at h
  split at h
  ·rename_i j
   obtain⟨I,g,u,v,A,E⟩:=sf o (λd b=>hc d (Kx _ b)) nd bd hn h;refine⟨I,g,u,v,λd b=> ?_,E⟩
   rcases LB.mp b with rfl|b
   ·exact g (Lh.mp j)
   ·exact A d b
  ·rename_i j
   have j:c∉T:=λz=>j (Lh.mpr z)
   split at h;cases h
   ·rename_i r e
    have m:(T++[c]).Nodup:=by rw[MO];refine⟨nd,by simp,λa ha x hx z=> ?_⟩;rw[LF]at hx;subst hx z;exact j ha
    have p:∀d∈T++[c],0<=d/\d<8:=λd b=>by
     rcases LP.mp b with z|z
     ·exact bd d z
     ·rw[LF.mp z]
      exact hc c K6
    cases K:i H r (T++[c])with
    |mk b1 w =>
     obtain⟨O,J⟩:=w;rw[K]at h;cases b1 with
     |true=>cases h|false =>
      obtain⟨S,D,U,L,Q,M⟩:=o H r (T++[c]) O J m p (by rw[K7,MW];omega) K;subst S;have W:T.length<=J.length:=by have:=gu nd (λx hx=>D (LQ _ hx));exact this
      obtain⟨I,g,u,v,A,E⟩:=sf o (λd b=>hc d (Kx _ b)) U L (by omega) h;refine⟨I,λx hx=>g (D (LQ _ hx)),u,v,λd b=> ?_,λd b=> ?_⟩
      ·rcases LB.mp b with rfl|b
       ·exact g (D (by simp))
       ·exact A d b
      ·rcases E d b with z|z
       ·rcases M d z with y|⟨q,R,N⟩
        ·rcases LP.mp y with y|y
         ·exact .inl y
         ·rw[LF.mp y]
          exact .inr ⟨r,e,λx hx=>g (Q x hx)⟩
        ·exact .inr ⟨q,R,λx hx=>g (N x hx)⟩
       ·exact .inr z
theorem yR{C:List (List Int)}(i:∀r,∀c∈gc C r,0<=c/\c<8):∀{n:Nat}{H:aV}{e:Int}{T:List Int}{g :aV}{f :List Int},T.Nodup->(∀c∈T,0<=c/\c<8)->8<n+T.length->tk C n H e T=(false,g,f) -> g =H/\T ⊆ f /\f.Nodup/\(∀c∈f,0<=c/\c<8)/\(∀d∈gc C e,d∈f)/\∀c∈f,c∈T\/∃q,bB H c=some q/\∀d∈gc C q,d∈f
 |0,H,e,T,g,f,nd,bd,hn,h=>by
  have j:=gu (U:=[0,1,2,3,4,5,6,7]) nd λx hx=>by
   obtain⟨a,b⟩:=bd x hx;have:x=0\/x=1\/x=2\/x=3\/x=4\/x=5\/x=6\/x=7:=by omega
   simp only[LB];omega
  have j:T.length<=8:=j;omega
 |n+1,H,e,T,g,f,nd,bd,hn,h=>sf (λH r T g f nd bd hn h=>yR i nd bd hn h) (i e) nd bd hn h
theorem kQ{C:List (List Int)}{S:List Int}{a:aV->Int->List Int->Bool×aV×List Int}{i:Int}
  (l:∀H r T m o,a H r T=(false,m,o)->m =H)
  (h:∀H r T,eZ C H S->(∀d∈gc C r,d∈S)->(a H r T).1=false) :
  ∀{j:List Int}{H:aV}{T:List Int},eZ C H S->(∀d∈j,d∈S)->(iK a i j H T).1=false
 |[],H,T,_,_=>rfl|c::j,H,T,cl,hc=>by
  unfold iK
  split;exact kQ l h cl λd f=>hc d (Kx _ f)
  ·obtain⟨r,e,f⟩:=cl c (hc c K6)
   rw[e];dsimp only;have g:=h H r (T++[c]) cl f;cases n:a H r (T++[c])with
   |mk b w =>obtain⟨p,q⟩:=w;rw[n]at g;subst g;have s:=l H r (T++[c]) p q n;subst s;exact kQ l h cl λd f=>hc d (Kx _ f)
set_option tactic.hygienic true in
theorem kR{d:aV->Int->List Int->Bool×aV×List Int}{i:Int}(g:∀H r T a f,d H r T=(false,a,f)->a =H):∀{j:List Int}{H:aV}{T:List Int}{a :aV}{f :List Int},iK d i j H T=(false,a,f)->a =H
 |[],H,T,a,f,h=>by cases h;rfl|c::j,H,T,a,f,h=>by
  unfold iK at h
  split at h;exact kR g h
  ·split at h
   ·cases h
   ·rename_i r e
    cases l:d H r (T++[c])with
    |mk b w =>
     obtain⟨n,m⟩:=w;rw[l]at h;cases b with
     |true=>cases h|false =>have o:=g H r (T++[c]) n m l;subst o;exact kR g h
theorem iJ{C:List (List Int)}:∀{n:Nat}{H:aV}{a:Int}{T:List Int}{b :aV}{c :List Int},tk C n H a T=(false,b,c)->b =H
 |0,H,a,T,b,c,h=>by cases h;rfl|n+1,H,a,T,b,c,h=>kR (λH r T b c h=>iJ h) h
theorem uk{C:List (List Int)}{S:List Int}:∀{n:Nat}{H:aV}{a:Int}{T:List Int},eZ C H S->(∀d∈gc C a,d∈S)->(tk C n H a T).1=false
 |0,H,a,T,_,_=>rfl|n+1,H,a,T,cl,hc=>kQ (λH r T H' T' h=>iJ h) (λH r T cl hc=>uk cl hc) cl hc
set_option tactic.hygienic true in
theorem nK{C:List (List Int)}{S:List Int}{a:aV->Int->List Int->Bool×aV×List Int}{n:Int}
  (p:∀H r T f g,a H r T=(false,f,g)->f =H)
  (o:∀H r T,eZ C H S->(∀d∈gc C r,d∈S)->(a H r T).1=false)
  (m:∀H r T f g,eZ C H S->a H r T=(true,f,g)->∀c∈S,bB f c=bB H c) :
  ∀{q:List Int}{H:aV}{T:List Int}{f :aV}{g :List Int},eZ C H S->iK a n q H T=(true,f,g)->∀c∈S,bB f c=bB H c
 |[],H,T,f,g,_,h=>by cases h|c::q,H,T,f,g,cl,h=>by
  unfold iK at h
  split at h;exact nK p o m cl h
  ·split at h
   ·rename_i e
    cases h;intro d l;rw[i6,LC λz:d=c=> ?_];obtain⟨r,i,_⟩:=cl d l;rw[z,e]at i;cases i
   ·rename_i r e
    cases j:a H r (T++[c])with
    |mk b w =>
     obtain⟨u,v⟩:=w;rw[j]at h;cases b with
     |true =>
      cases h;intro d l;rw[i6,LC λz:d=c=> ?_]
      ·exact m H r (T++[c]) _ _ cl j d l
      ·obtain⟨y,i,s⟩:=cl d l
       rw[z,e]at i;cases i;have:=o H r (T++[c]) cl s;rw[j]at this;cases this
     |false =>have x:=p H r (T++[c]) u v j;rw[x]at h;exact nK p o m cl h
theorem yQ{C:List (List Int)}{S:List Int}:∀{n:Nat}{H:aV}{a:Int}{T:List Int}{b :aV}{d :List Int},eZ C H S->tk C n H a T=(true,b,d)->∀c∈S,bB b c=bB H c
 |0,H,a,T,b,d,_,h=>by cases h|n+1,H,a,T,b,d,cl,h=>nK (λH r T b d h=>iJ h) (λH r T cl hc=>uk cl hc) (λH r T b d cl h=>yQ cl h) cl h
def hd(C:List (List Int)):Nat->aV
 |0=>[]|k+1=>(tk C 9 (hd C k) (k:Nat) []).2.1
structure ub(C:List (List Int))(k:Nat)(H:aV):Prop where
 mt:Mt C H
 rows:∀r∈H.map (·.2),(0:Int)<=r/\r<(k:Int)
 shut:∃S:List Int,eZ C H S/\(∀c∈S,0<=c/\c<8)/\∀i:Nat,i<k->(i:Int)∈H.map (·.2)\/∀c∈gc C (i:Nat),c∈S
theorem rB{C:List (List Int)}(n:∀r,∀c∈gc C r,0<=c/\c<8):∀k:Nat,ub C k (hd C k)
 |0=>⟨⟨.nil,.nil,λp hp=>(by cases hp)⟩,λr hr=>(by cases hr),[],λc hc=>(by cases hc),λc hc=>(by cases hc),λi hi=>by omega⟩|k+1=>by
  have a:=rB n k;obtain⟨S,j,o,m⟩:=a.shut;have D:(k:Int)∉(hd C k).map (·.2):=λz=>by have:=a.rows _ z;omega
  unfold hd;cases l:tk C 9 (hd C k) k []with
  |mk b w =>
   obtain⟨H,v⟩:=w;obtain⟨_,A,u⟩:=EI ⟨a.mt.keys,a.mt.edge⟩ l;cases b with
   |false =>
    have e:=A rfl;obtain⟨_,_,_,p,x,s⟩:=yR n .nil (λc hc=>by cases hc) (by decide) l;rw[e];refine⟨a.mt,λr hr=>by have:=a.rows r hr;omega,S++v,λc hc=> ?_,λc hc=> ?_,λi hi=> ?_⟩
    ·rcases LP.mp hc with z|z
     ·obtain⟨r,h,g⟩:=j c z
      exact⟨r,h,λd hd=>LQ _ (g d hd)⟩
     ·rcases s c z with y|⟨q,h,g⟩
      ·cases y
      ·exact⟨q,h,λd hd=>Lb _ (g d hd)⟩
    ·rcases LP.mp hc with z|z
     ·exact o c z
     ·exact p c z
    ·by_cases f:i<k
     ·rcases m i f with z|z
      ·exact .inl z
      ·exact .inr λc hc=>LQ _ (z c hc)
     ·have:i=k:=by omega
      subst this;exact .inr λc hc=>Lb _ (x c hc)
   |true =>
    have w:=u rfl;have E:=yQ j l;refine⟨w.mt a.mt D,λr hr=> ?_,S,λc hc=> ?_,o,λi hi=> ?_⟩
    ·rcases LB.mp (w.rows.mem_iff.mp hr)with z|z
     ·omega
     ·have:=a.rows r z
      omega
    ·obtain⟨r,h,g⟩:=j c hc
     exact⟨r,by rw[E c hc];exact h,g⟩
    ·by_cases f:i<k
     ·rcases m i f with z|z
      ·exact .inl (w.rows.mem_iff.mpr (Kx _ z))
      ·exact .inr z
     ·have:i=k:=by omega
      subst this;exact .inl (w.rows.mem_iff.mpr K6)
def jt:List PV->Option (List (List Int))
 |[]=>some []| .lst xs::r=>(aU xs).bind λns=>(jt r).map (ns::·)|_::_=>none
def mD(C:List (List Int)):List PV:=C.map λns=>PV.lst (ns.map PV.int)
def iC(C:List (List Int)):Bool:=decide (C.length<=8)&&C.all λns=>decide (ns.length<=100)&&ns.all λc=>decide (0<=c)&&decide (c<8)
def rA:List PV->Option PV
 |[.lst cs]=>(jt cs).bind λC=>if iC C=true then some (fF (hd C C.length))else none|_=>none
theorem m9:∀{cs:List PV}{C:List (List Int)},jt cs=some C->cs=mD C
 |[],C,h=>by cases h;rfl|x::r,C,h=>by
  cases x with
  |lst xs =>
   have h:((aU xs).bind λns=>(jt r).map (ns::·))=some C:=h;cases e1:aU xs with
   |none=>rw[e1]at h;cases h|some ns =>
    rw[e1]at h;cases e2:jt r with
    |none=>rw[e2]at h;cases h|some D =>rw[e2]at h;cases h;rw[hR e1,m9 e2];rfl
  |_=>cases h
theorem nA:∀C:List (List Int),jt (mD C)=some C
 |[]=>rfl|ns::C=>by show((aU (ns.map PV.int)).bind λns=>(jt (mD C)).map (ns::·))=_;rw[bW,nA C];rfl
theorem iB(h:iC C=true):C.length<=8/\(∀ns∈C,ns.length<=100)/\∀r,∀c∈gc C r,0<=c/\c<8:=by
 unfold iC at h;rw[Kt,MI,LL]at h;refine⟨h.1,λns hn=> ?_,λr c hc=> ?_⟩
 ·have:=h.2 ns hn
  rw[Kt,MI]at this;exact this.1
 ·unfold gc at hc
  rw[Kz]at hc;cases e:C[r.toNat]? with
  |none=>rw[e]at hc;cases hc|some ns =>rw[e]at hc;have:=h.2 ns (K9 e);rw[Kt,LL]at this;have:=this.2 c hc;rw[Kt,MI,MI]at this;exact this
def Gq(H:aV)(c:Int):Int:=(bB H c).getD 0
def k7(n:Nat):List Int:=(List.range n).map λi:Nat=>(i:Int)
theorem xB{n:Nat}:x∈k7 n↔0<=x/\x<n:=by
 unfold k7;rw[LD]
 constructor
 ·rintro⟨i,a,rfl⟩
  have:=Lg.mp a;omega
 ·rintro⟨c,b⟩
  exact⟨x.toNat,Lg.mpr (by omega),by omega⟩
theorem qT(n:Nat):(k7 n).Nodup:=by unfold k7 List.Nodup;rw[List.pairwise_map];exact List.nodup_range.imp λh e=>h (by omega)
def iW(n:Nat)(l:List Int):List Int:=(k7 n).filter λx=> !l.contains x
theorem de{n:Nat}:x∈iW n l↔(0<=x/\x<n)/\x∉l:=by unfold iW;rw[Ly,xB];simp
theorem tM(n:Nat)(l:List Int):(iW n l).Nodup:=(qT n).sublist List.filter_sublist
theorem ER{l m:List Int}(b:l.Nodup)(a:m.Nodup)(h:∀x,x∈l↔x∈m):l.Perm m:=(List.perm_ext_iff_of_nodup b a).mpr λx=>h x
theorem Bz{H:aV}(c:(H.map (·.2)).Nodup)(f:p∈H)(g:q∈H)(e:p.2=q.2):p=q:=by
 induction H with
 |nil=>cases f|cons x H i =>
  rw[K8,Lo]at c
  rcases LB.mp f with h|b
  ·rcases LB.mp g with d|a
   ·rw[h,d]
   ·exact absurd (show x.2∈H.map (·.2)from LD.mpr ⟨q,a,by rw[<- e,h]⟩) c.1
  ·rcases LB.mp g with d|a
   ·exact absurd (show x.2∈H.map (·.2)from LD.mpr ⟨p,b,by rw[e,d]⟩) c.1
   ·exact i c.2 b a
theorem rM{a:Type}(f:a->Bool):∀l:List a,(l.filter f).length+(l.filter λx=> !f x).length=l.length
 |[]=>rfl|x::l=>by
  have:=rM f l;cases h:f x with
  |true=>rw[List.filter_cons_of_pos h,List.filter_cons_of_neg (by rw[h];exact K0),LK,LK];omega|false=>rw[List.filter_cons_of_neg (by rw[h];exact K0),List.filter_cons_of_pos (by rw[h];rfl),LK,LK];omega
def Ho(C:List (List Int))(H:aV)(n:Nat)(S:List Int):Prop:=eZ C H S/\∀i:Nat,i<n->(i:Int)∈H.map (·.2)\/∀c∈gc C (i:Nat),c∈S
structure sM(C:List (List Int))(H:aV)(n:Nat)(R Q:List Int)(k:Nat):Prop where
 shape:R=iW n (H.map (·.2))++Q.map (Gq H)
 nod:Q.Nodup
 sub:∀S,Ho C H n S->∀c∈Q,c∈S
 done:∀j,j<k->∀r,R[j]? =some r->∀c∈gc C r,c∈Q
theorem oS(h:c∈H.map (·.1)):bB H c=some (Gq H c):=by
 unfold Gq;cases e:bB H c with
 |none=>exact absurd h (fm.mp e)|some r=>rfl
theorem y9{n:Nat}:sM C H n (iW n (H.map (·.2))) [] 0 := ⟨by rw[MJ,MP],.nil,λS _ c hc=>(by cases hc),λj hj=>by omega⟩
section
variable{C:List (List Int)}{H:aV}{n k:Nat}{R Q:List Int}
theorem EQ(h:sM C H n R Q k)(b:Ho C H n S)(g:r∈R)(a:c∈gc C r):c∈S:=by
 rw[h.shape]at g
 rcases LP.mp g with z|z
 ·obtain⟨⟨l,f⟩,j⟩:=de.mp z
  have:=b.2 r.toNat (by omega);rw[show((r.toNat:Nat):Int)=r by omega]at this;exact(this.resolve_left j) c a
 ·obtain⟨d,i,rfl⟩:=LD.mp z
  obtain⟨q,e,f⟩:=b.1 d (h.sub S b d i);unfold Gq at a;rw[e]at a;exact f c a
theorem mQ(b:Ho C H n S)(a:c∈S):c∈H.map (·.1):=by obtain⟨r,e,_⟩:=b.1 c a;exact LD.mpr ⟨_,eD e,rfl⟩
theorem CP(e:ub C n H)(h:sM C H n R Q k)(f:r∈R)(d:c∈gc C r):c∈H.map (·.1):=by obtain⟨S,b,g,a⟩:=e.shut;exact mQ ⟨b,a⟩ (EQ h ⟨b,a⟩ f d)
theorem kh(e:ub C n H)(h:sM C H n R Q k)(d:c∈Q):c∈H.map (·.1):=by obtain⟨S,b,f,a⟩:=e.shut;exact mQ ⟨b,a⟩ (h.sub S ⟨b,a⟩ c d)
theorem CQ(e:ub C n H)(h:sM C H n R Q k)(b:c∈Q):0<=c/\c<8:=by obtain⟨S,d,f,a⟩:=e.shut;exact f c (h.sub S ⟨d,a⟩ c b)
theorem Fm(h:sM C H n R Q k)(g:k<=R.length)(f:r∈R)(a:c∈gc C r)(b:c∉Q):sM C H n (R++[Gq H c]) (Q++[c]) k:=by
 refine⟨?_,?_,λS hS d hd=> ?_,λj hj r' e d hd=> ?_⟩
 ·rw[h.shape,LI,NV]
  rfl
 ·rw[MO]
  refine⟨h.nod,by simp,λa ha x hx z=> ?_⟩;rw[LF]at hx;subst hx z;exact b ha
 ·rcases LP.mp hd with z|z
  ·exact h.sub S hS d z
  ·rw[LF.mp z]
   exact EQ h hS f a
 ·rw[L9 (by omega)]at e
  exact LQ _ (h.done j hj r' e d hd)
theorem CO(h:sM C H n R Q k)(b:R[k]? =some r)(a:∀c∈gc C r,c∈Q):sM C H n R Q (k+1):=by
 refine⟨h.shape,h.nod,h.sub,λj hj r' e d hd=> ?_⟩
 by_cases z:j<k;exact h.done j z r' e d hd
 ·have:j=k:=by omega
  subst this;rw[b]at e;cases e;exact a d hd
theorem nZ(c:ub C n H)(h:sM C H n R Q k):R.length<=n+8:=by
 have e:(iW n (H.map (·.2))).length<=n:=by refine LM (ME _ _) ?_;unfold k7;rw[Kr,LX];exact Ky _
 have d:Q.length<=8:=gu (U:=[0,1,2,3,4,5,6,7]) h.nod λx hx=>by obtain⟨a,b⟩:=CQ c h hx;simp only[LB];omega
 rw[h.shape,K7,Kr];omega
theorem zA(j:ub C n H)(h:sM C H n R Q R.length):(iW n R).length+Q.length=H.length:=by
 have q:=j.mt.keys;have l:=j.mt.rows;have y:(H.filter λp=>Q.contains p.1).length=Q.length:=by
  have:((H.filter λp=>Q.contains p.1).map (·.1)).Perm Q:=by
   refine ER (q.sublist ((List.filter_sublist).map _)) h.nod λx=> ?_
   constructor
   ·intro f
    obtain⟨p,i,rfl⟩:=LD.mp f;exact Lh.mp (Ly.mp i).2
   ·intro f
    obtain⟨p,i,rfl⟩:=LD.mp (kh j h f);exact LD.mpr ⟨p,Ly.mpr ⟨i,Lh.mpr f⟩,rfl⟩
  rw[<- this.length_eq,Kr]
 have w:(H.filter λp=> !Q.contains p.1).length=(iW n R).length:=by
  have:((H.filter λp=> !Q.contains p.1).map (·.2)).Perm (iW n R):=by
   refine ER (l.sublist ((List.filter_sublist).map _)) (tM _ _) λx=> ?_
   constructor
   ·intro f
    obtain⟨p,i,rfl⟩:=LD.mp f;obtain⟨m,o⟩:=Ly.mp i;refine de.mpr ⟨j.rows _ (LD.mpr ⟨p,m,rfl⟩),λz=> ?_⟩;rw[h.shape]at z
    rcases LP.mp z with z|z
    ·exact(de.mp z).2 (LD.mpr ⟨p,m,rfl⟩)
    ·obtain⟨d,s,e⟩:=LD.mp z
     have g:=eD (oS (kh j h s));rw[e]at g;have:=Bz l m g rfl;rw[this,Lh.mpr s]at o;cases o
   ·intro f
    obtain⟨⟨a,b⟩,c⟩:=de.mp f;have u:x∈H.map (·.2):=by by_cases z:x∈H.map (·.2);exact z;exact absurd (by rw[h.shape];exact LQ _ (de.mpr ⟨⟨a,b⟩,z⟩)) c
    obtain⟨p,i,rfl⟩:=LD.mp u;refine LD.mpr ⟨p,Ly.mpr ⟨i,?_⟩,rfl⟩;cases z:Q.contains p.1 with
    |false=>rfl|true =>refine absurd ?_ c;rw[h.shape];refine Lb _ (LD.mpr ⟨p.1,Lh.mp z,?_⟩);unfold Gq;rw[Dc q i];rfl
  rw[<- this.length_eq,Kr]
 have v:(H.filter λp=>Q.contains p.1).length+(H.filter λp=> !Q.contains p.1).length=H.length:=by exact rM (λp=>Q.contains p.1) H
 omega
end
theorem wK:∀{b:List PV}{a:List Str},bg b=some a->b=a.map PV.str:=by
 intro b
 induction b with
 |nil=>intro a h;cases h;rfl|cons x b c =>
  intro a h;cases x with
  |str z =>
   have h:(bg b).map (z::·)=some a:=h;cases e:bg b with
   |none=>rw[e]at h;cases h|some r =>rw[e]at h;cases h;rw[c e];rfl
  |_=>cases h
theorem dY:∀a:List Str,bg (a.map PV.str)=some a:=by
 intro r
 induction r with
 |nil=>rfl|cons z r b=>rw[K8,bg,b];rfl
def ja(a:List Str):Bool:=decide (1<=a.length)&&decide (a.length<=8)&&a.all (λz=>decide (z.length=(a.headD "").length)&&z.cps.toList.all λc=>c==120||c==46)&&decide (1<=(a.headD "").length)&&decide ((a.headD "").length<=8)
theorem eY:ja a=true↔UM.aW 8 a:=by
 unfold ja;simp only[Kt,MI,LL,MG,Lx]
 constructor
 ·rintro⟨⟨⟨⟨g,h⟩,f⟩,l⟩,i⟩
  exact⟨λz=>by rw[z]at g;exact absurd g (by decide),h,⟨_,l,i,λz hz=>(f z hz).1⟩,λz hz c hc=>(f z hz).2 c hc⟩
 ·intro b
  obtain⟨w,m,j,d⟩:=b.wide;have e:(a.headD "").length=w:=by
   cases a with
   |nil=>exact absurd rfl b.some|cons y r=>exact d y K6
  rw[e];refine⟨⟨⟨⟨?_,b.few⟩,λz hz=>⟨d z hz,λc hc=>b.signs z hz c hc⟩⟩,m⟩,j⟩;cases a with
  |nil=>exact absurd rfl b.some|cons y r=>exact Nat.succ_le_succ (LY _)
def rg:List PV->Option PV
 |[.tup xs]=>(bg xs).bind λrows=>if ja rows=true then some (.bl true)else none|_=>none
set_option tactic.hygienic true in
theorem Du(h:rg b=some r):r=.bl true/\∃a:List Str,b=[.tup (a.map .str)]/\UM.aW 8 a:=by
 unfold rg at h
 split at h
 ·rename_i c
  cases e:bg c with
  |none=>rw[e]at h;cases h|some a =>
   rw[e,K2]at h
   split at h
   ·rename_i d
    cases h;exact⟨rfl,a,by rw[wK e],eY.mp d⟩
   ·cases h
 ·cases h
theorem HU(b:UM.aW 8 rows):rg [.tup (rows.map .str)]=some (.bl true):=by show((bg (rows.map PV.str)).bind λrows=>if ja rows=true then some (PV.bl true)else none)=_;rw[dY,K2,K5 (eY.mpr b)]
abbrev NL:Str:=⟨#[10]⟩
def qF:List PV->Option PV
 |[.str z]=>if z.length<=1000/\ja (Txt.split z NL)=true then some (.tup ((Txt.split z NL).map .str))else none|_=>none
def lq:PV->Bool
 | .str z=>decide (z.length<=1000)&& !ja (Txt.split z NL)| .dT _ _=>false|_=>true
def u8:List PV->Option PV
 |[v]=>if lq v=true then some (.bl true)else none|_=>none
set_option tactic.hygienic true in
theorem y8(h:qF b=some r):∃z a,b=[.str z]/\z.length<=1000/\Txt.split z NL=a/\UM.aW 8 a/\r=.tup (a.map .str):=by
 unfold qF at h
 split at h
 ·rename_i z
  split at h
  ·rename_i c
   cases h;exact⟨z,_,rfl,c.1,rfl,eY.mp c.2,rfl⟩
  ·cases h
 ·cases h
theorem CM(b:UM.aW 8 a)(d:(Str.join NL a).length<=1000):qF [.str (Str.join NL a)]=some (.tup (a.map .str)):=by have e:=UM.kU b.some b.free;show(if(Str.join NL a).length<=1000/\ja (Txt.split (Str.join NL a) NL)=true then some (PV.tup ((Txt.split (Str.join NL a) NL).map .str))else none)=_;rw[show Txt.split (Str.join NL a) NL=a from e,K5 ⟨d,eY.mpr b⟩]
set_option tactic.hygienic true in
theorem y7(h:u8 a=some r):r=.bl true/\∃v,a=[v]/\lq v=true:=by
 unfold u8 at h
 split at h
 ·split at h
  ·rename_i b
   cases h;exact⟨rfl,_,rfl,b⟩
  ·cases h
 ·cases h
theorem CL{v:PV}(h:lq v=true):u8 [v]=some (.bl true):=K5 h
theorem zx(b:a≠[])(f:∀p∈a,10∉p.cps.toList)(d:(Str.join NL a).length<=1000)(g:¬UM.aW 8 a):lq (.str (Str.join NL a))=true:=by have e:=UM.kU b f;show(decide ((Str.join NL a).length<=1000)&& !ja (Txt.split (Str.join NL a) NL))=true;rw[show Txt.split (Str.join NL a) NL=a from e,LU d,Bool.true_and,M1,MD];exact λz=>g (eY.mp z)
theorem tf(y:Str)(h:a≠[]):Str.join NL (y::a)=y++NL++Str.join NL a:=by
 cases a with
 |nil=>exact absurd rfl h|cons x r=>rfl
theorem lF{m:Nat}:∀{parts:List Str},(∀p∈parts,p.length<=m)->(Str.join NL parts).length<=parts.length*(m+1)
 |[],_=>LY _|[x],h=>by have:=h x (by simp);show x.length<=_;simp;omega
 |x::a::r,h=>by
  have b:=lF λp hp=>h p (Kx _ hp);have:=h x (by simp);have e:(Str.join NL (x::a::r)).length=x.length+1+(Str.join NL (a::r)).length:=by show(x++NL++Str.join NL (a::r)).length=_;rw[Lw,Lw];rfl
  rw[e,LK,NA];omega
end IR
namespace XE
open PySem
abbrev fr(l:List Env):List Addr:=l.filterMap (·.frame)
def xw(h:Heap)(e T:Addr)(cls:Value)(f:Option Addr)(g:Value):Prop :=
 ∃a c b d,h.get? e=some a/\a.cls=cls/\a.dict=f/\a.data=.fields c/\c[1]? =some (.ref T)/\T≠e/\h.get? T=some b/\b.data=.fields d/\d[3]? =some g
structure Up(fs ns:List Addr)(h h' :Heap):Prop where
 keep:∀b o,h.get? b=some o->b∉fs->b∉ns->h'.get? b=some o
 slot:∀b o,h.get? b=some o->b∈fs->∃sl,h'.get? b=some {o with slots:=sl}
set_option tactic.hygienic false
theorem Au(o:Obj)(f:Array Value->Array Value):(Obj.mapFields f o).dict=o.dict:=by
 unfold Obj.mapFields
 split<;>rfl
section
variable{M:Model}{A:Around}{E:Value->Shared->Prop}{s:Shared}{base:Heap}{env:Env}{outer:List Env}{L e T:Addr}{cls fl:Value}{dd:Option Addr}{Q:Unit->Shared->Prop}{oe:Obj}{vs:Array Value}
theorem rP{nx:Bool}(n:A.frames=some (c::outer))(x:s.heap.FunFrames base (c::outer))(I:c.frame=some L)(v:s.heap.get? e=some oe)(r:oe.data=.fields vs)(H:1<vs.size)
  (h:∀p T,Up (fr (c::outer)) [e] s.heap p ->s.heap.get? T=none->xw p e T oe.cls oe.dict (rawInt L)->Q () {s with heap:=p}) :
  wpAny M A (do let a<-frameOf c;let pl<-entryPlaceOf L nx;let b<-EntryCells.newEntry d a .none (rawInt L) .none pl;setField (.ref e) 1 b) Q E s:=by
 have u:e∉fr (c::outer):=λm=>by obtain⟨_,o,D,J⟩:=x.mem m;rw[v]at D;cases D;exact J vs r
 refine Ku (wpAny_frameOf_fun n x I λk1 sk=> ?_);refine Ku (wpAny_entryPlaceOf λpl isp=> ?_);refine Ku (OH ?_ (isp.sizeOk5 _ _ _ _ _));have j:=(sk.2.1 e u).trans v;have C:=NB (LG j)
 generalize f:({cls:=.type "traceback",dict:=none,data:=.fields ([d,.ref L,.none,rawInt L,.none]++(if pl.isEmpty then List.replicate 6 Value.none else pl)).toArray}:Obj)=ob
 have i:=Ks ob j;refine OB i r H ?_;have g:=NY r (·.setIfInBounds 1 (Value.ref k1.objs.size));have w:∀b o,b≠e->k1.get? b=some o->((k1.push ob).update e (Obj.mapFields (·.setIfInBounds 1 (Value.ref k1.objs.size)))).get? b=some o:=λb o nb q=>by rw[Lz _ _ (MC nb)];exact Ks _ q
 refine h _ k1.objs.size ⟨λb o q n1 n2=>w b o (λz=>n2 (by rw[z];exact LF.mpr rfl)) ((sk.2.1 b n1).trans q),λb o q m=> ?_⟩ ?_ ?_
 ·obtain⟨y,l⟩:=sk.2.2 b o q
  exact⟨y,w b _ (λz=>u (by rw[<- z];exact m)) l⟩
 ·cases q:s.heap.get? k1.objs.size with
  |none=>rfl|some o =>obtain⟨y,l⟩:=sk.2.2 _ o q;exact absurd (LG l) (MQ _)
 ·refine⟨_,_,ob,_,Mc _ i (Nm g),Obj.cls_mapFields _ _,Au _ _,g,by simp[H],C,?_,by rw[<- f],?_⟩
  ·rw[Lz _ _ (MC C)]
   exact LO k1 (by rw[<- f];rfl)
  ·rcases isp with rfl|⟨_,_,_,_,_,_,_,rfl⟩<;>simp
theorem land(z:xw s.heap e T cls dd fl)(h:∀a,(∀b o,s.heap.get? b=some o->b≠T->a.get? b=some o)->xw a e T cls dd .none->Q () {s with heap:=a}):wpAny M A (setFlight (.ref e) none) Q E s:=by
 obtain⟨y,w,C,x,i,v,u,d,j,l,g,c,r⟩:=z;refine Ku (NZ i d j ?_);have p:=(M9.mp r).1;have m:=NY c (·.setIfInBounds 3 (none.elim Value.none λf=>rawInt f));refine OB g c p (h _ (λb o q n=> ?_) ⟨y,w,_,_,?_,v,u,d,j,l,Mc _ g (Nm m),m,by simp[p]⟩)
 ·rw[Lz _ _ (MC n)]
  exact q
 ·rw[Lz _ _ l]
  exact i
theorem tT(b:A.frames=some (a::outer))(j:s.heap.FunFrames base (a::outer))(f:a.frame=some L)(i:s.heap.get? e=some oe)(d:oe.data=.fields vs)(g:vs[1]? =some .none)
  (h:∀c T,Up (fr (a::outer)) [e] s.heap c ->s.heap.get? T=none->xw c e T oe.cls oe.dict (rawInt L)->Q () {s with heap:=c}):wpAny M A (noteFrame (.ref e) a) Q E s:=by
 unfold noteFrame;simp only[f];refine Ku (NZ i d g ?_);exact rP b j f i d (M9.mp g).1 h
theorem mY(hfr:A.frames=some (env::outer))(hl:s.heap.FunFrames base (env::outer))(hf:env.frame=some L)(ht:xw s.heap e T cls dd .none)
  (h:∀h' T',Up (fr (env::outer)) [e,T] s.heap h' ->s.heap.get? T' =none->xw h' e T' cls dd (rawInt L)->Q () {s with heap:=h'}):wpAny M A (noteFrame (.ref e) env) Q E s:=by
 obtain⟨oe,vs,oT,ts,e1,e2,e3,e4,e5,e6,e7,e8,e9⟩:=ht;unfold noteFrame;simp only[hf];refine Ku (NZ e1 e4 e5 ?_);refine Ku (NZ e7 e8 e9 ?_);have nf:∀b∈fr (env::outer),b≠T:=λb m z=>by obtain⟨_,o,ho,hn⟩:=hl.mem m;rw[z,e7]at ho;cases ho;exact hn ts e8
 refine Ku (OB e7 e8 (M9.mp e9).1 ?_);have ot:∀b,b≠T->(s.heap.update T (Obj.mapFields (·.setIfInBounds 3 Value.none))).get? b=s.heap.get? b:=λb n=>Lz _ _ (MC n);refine rP hfr (hl.of_keeps λb o q n=>⟨o,?_,rfl⟩) hf ((ot e (MC e6)).trans e1) e4 (M9.mp e5).1 λh' T' u n f=> ?_
 ·rw[ot b λz=>by rw[z,e7]at q;cases q;exact n ts e8]
  exact q
 ·have nT:T' ≠T:=λz=>by
   rw[z]at n;rw[show(Shared.heap {s with heap:=s.heap.update T (Obj.mapFields (·.setIfInBounds 3 Value.none))}).get? T=_ from Mc _ e7 (Nm (NY e8 _))]at n;cases n
  refine h h' T' ⟨λb o q n1 n2=>u.keep b o ?_ n1 ?_,λb o q m=>u.slot b o ?_ m⟩ ?_ (by rw[<- e2,<-e3];exact f)
  ·exact(ot b λz=>n2 (by rw[z];simp)).trans q
  ·exact λz=>n2 (by rw[LF.mp z];simp)
  ·exact(ot b (nf b m)).trans q
  ·exact(ot T' nT).symm.trans n
theorem Up.land(u:Up f d h c)(n:h.get? T=none)(k:∀b o,c.get? b=some o->b≠T->a.get? b=some o):Up f d h a := ⟨λb o q n1 n2=>k b o (u.keep b o q n1 n2) (λz=>by rw[z,n]at q;cases q),λb o q m=>by obtain⟨g,i⟩:=u.slot b o q m;exact⟨g,k b _ i (λz=>by rw[z,n]at q;cases q)⟩⟩
theorem jp(b:A.frames=some (a::outer))(d:s.heap.FunFrames base (a::outer))(i:a.frame=some L)(l:s.heap.get? e=some oe)(g:oe.data=.fields vs)(j:vs[1]? =some .none)
  (h:∀c T,Up (fr (a::outer)) [e] s.heap c ->s.heap.get? T=none->xw c e T oe.cls oe.dict .none->Q () {s with heap:=c}):wpAny M A (leaving a (.ref e)) Q E s:=by
 refine Ku (tT b d i l g j λk1 T u n f=> ?_);exact land f λk2 k f2=>h k2 T (u.land n k) n f2
theorem AF(c:A.frames=some (a::outer))(g:s.heap.FunFrames base (a::outer))(i:a.frame=some L)(j:xw s.heap e T cls dd .none)
  (h:∀d b,Up (fr (a::outer)) [e,T] s.heap d ->s.heap.get? b =none->xw d e b cls dd .none->Q () {s with heap:=d}):wpAny M A (leaving a (.ref e)) Q E s:=by
 refine Ku (mY c g i j λk1 b u n f=> ?_);exact land f λk2 k f2=>h k2 b (u.land n k) n f2
theorem Cu(c:A.frames=some (a::outer))(g:s.heap.FunFrames base (a::outer))(i:a.frame=some L)(j:xw s.heap e T cls dd .none)
  (h:∀d b,Up (fr (a::outer)) [e,T] s.heap d ->s.heap.get? b =none->xw d e b cls dd .none->Q () {s with heap:=d}) :
  wpAny M A (noteFrame (.ref e) a) (λ_ s2=>wpAny M A (setFlight (.ref e) none) Q E s2) E s:=by
 refine mY c g i j λk1 b u n f=> ?_;exact land f λk2 k f2=>h k2 b (u.land n k) n f2
end
end XE
namespace XE
open PySem PySem.W PyProof.Rows
structure XC(K:Frag)(C:Addr):Prop where
 ga:findIn K (.ref C) "__getattribute__"=some (some (.builtin "BaseException.__getattribute__"))
 gn:findIn K (.ref C) "__getattr__"=some none
 ca:findIn K (.ref C) "__class__"=some (some (.builtin "object.__class__"))
 sg:specialIn K (.builtin "object.__class__") "__get__"=some (some (.builtin "getset_descriptor.__get__"))
 tk:takesIn K (.builtin "object.__class__")=some true
 ob:mroIn K C (.type "object")=some true
 be:mroIn K C (.type "BaseException")=some true
 cl:(clsIn K C).isSome=true
section
variable{prog:Program}{w:World}{A:Around}{E:Value->Shared->Prop}{s:Shared}{K:Frag}{e C:Addr}{ox:Obj}{od:Option Obj}
set_option tactic.hygienic false
theorem XC.find(c:XC K C):findObj K C od "__class__"=some (.bind (.builtin "getset_descriptor.__get__") (.builtin "object.__class__")):=by obtain⟨b,a⟩:=Md.mp c.cl;unfold findObj;rw[a,K2,c.ca,K2];simp[c.sg,c.tk]
theorem rC(c:XC K C)(X:K.In s.heap)(I:InstAt s.heap e ox C od)(h:Q () s):wpAny M A (checkBuiltinCall "BaseException.__getattribute__" ⟨[.ref e,a],[]⟩) Q E s:=by
 obtain⟨j,g,d,t,l⟩:=s;have i:=I.type (M:=M);have m:=looks_mroIn (M:=M) X c.be;have f:builtinKind "BaseException.__getattribute__"=some .slot:=by decide +kernel
 have b:splitId "BaseException.__getattribute__"=some ("BaseException","__getattribute__"):=by decide +kernel
 simp only[checkBuiltinCall,f,b];refine Ku ?_;unfold isInstance
 repeat lk
 exact h
theorem A3(c:XC K C)(X:K.In s.heap)(I:InstAt s.heap e ox C od)(h:Q (some (.ref C)) {s with toks:=s.toks+1}) :
  wpAny (model prog w) A (getAttr? (.ref e) "__class__") Q E s:=by
 obtain⟨j,g,d,t,l⟩:=s;have a:=I.type (M:=model prog w);have b:=looks_findIn (M:=model prog w) X c.ga;have f:=looks_findIn (M:=model prog w) X c.gn;have i:=looks_find (M:=model prog w) X I c.find;refine Ku (wpAny_mkText (Ku (wpAny_attempt (MH (Ku (a.at (Ku (b.at ?_))))))));refine Ku ?_;refine f.at ?_;refine Ku (wpAny_attempt (MH ?_));show wpAny _ _ (boundAndCalled _ _ _) _ _ _;unfold boundAndCalled;refine Ku (LS ?_);refine OD (codeAny_call_builtin F.attr_ValueError.ga.plain F.entry_bexc_ga (rC c X I ?_));refine Ku (LS ?_);refine Ku (LS ?_);refine Ku (a.at ?_);refine Ku (i.at ?_);refine Ku (MH (OD (class_get X I c.ob ?_)));exact LS (LS (LS h))
set_option tactic.hygienic true in
theorem kitx{K:Frag}{e C:Addr}(c:XC K C):KitX K (.ref e) (.ref C) (λh=>∃g f,W.InstAt h e g C f) where
 ty:=λ_ _ _ ⟨_,_,I⟩=>I.type
 it:=λ_ _ X _=>by
  obtain⟨d,a⟩:=Md.mp c.cl;unfold clsIn at a
  split at a
  ·rename_i b
   exact λA' Q' E' s' k q=>Ku (wpAny_loadPart (k _ _ (X _ _ b)) (LS q))
  ·cases a
 ne:=λh tp dd its n sl X htp=>by
  obtain⟨d,a⟩:=Md.mp c.cl;refine MD.mpr λq=> ?_;have z:=Value.ref.inj (Lx.mp q);subst z;unfold clsIn at a
  split at a
  ·rename_i b
   have z:=(X _ _ b).symm.trans htp;cases z
  ·cases a
 ca:=λX ⟨_,_,I⟩ k=>A3 c X I k
end
end XE
namespace L2.XN
open PySem PySem.Spec PyProof.Rows L2 XE
section
variable{P:Program}{w:World}{H H' :Hp}{h h' h2:Heap}{a:Addr}{o:HO}{fs ns:List Addr}
set_option tactic.hygienic false
theorem mX(x:au P w H h a o):∃u,h.get? a=some u:=by
 cases o with
 |lst d=>obtain⟨_,_,_,_,e⟩:=x;exact⟨_,e⟩
 |tup d=>obtain⟨_,_,_,b,e,_⟩:=x;exact⟨_,e⟩
 |dK c=>obtain⟨_,_,_,_,b,_,_,e,_⟩:=x;exact⟨_,e⟩
 |dT c=>obtain⟨_,_,_,_,b,_,_,e,_⟩:=x;exact⟨_,e⟩
 |set S n=>obtain⟨b,_,_,_,e,_⟩:=x;exact⟨_,e⟩
 |ins C p g=>obtain⟨_,_,_,e,_⟩:=x;exact⟨_,e⟩
 |own y=>exact x|xd g=>obtain⟨_,⟨_,_,_,e,_⟩,_⟩:=x;exact⟨_,e⟩
 |rng m i=>obtain⟨_,_,_,e⟩:=x;exact⟨_,e⟩
 |frz b u=>obtain⟨e,_⟩:=x;exact⟨_,e⟩
 |tbl l=>exact⟨_,(show h.get? a=some _ from x)⟩|met f y=>exact⟨_,(show h.get? a=some _ from x)⟩|ext j=>obtain⟨_,e,_⟩:=x;exact e
theorem il(c:dm P w H h)(e:h.get? a=none):H a=none:=by
 cases q:H a with
 |none=>rfl|some u =>obtain⟨v,b⟩:=mX (c a u q);rw[e]at b;cases b
theorem lI(f:dm P w H h)(u:Up fs ns h h')(c:∀b∈fs,H b=none)(d:∀b∈ns,H b=none):dm P w H h' :=λa o e =>
 (f a o e).stay (λb v hb q=>u.keep b v q (λz=>by
  rcases hb with r|r
  ·rw[r]at z;rw[c _ z]at e;cases e
  ·rw[c _ z]at r;cases r) λz=>by
  rcases hb with r|r
  ·rw[r]at z;rw[d _ z]at e;cases e
  ·rw[d _ z]at r;cases r) (λ_ q=>q) λ_ _ q=>q
theorem yE{i:Hp}(u:Un fs [] i H d l)(p:Up (L::fs) ns l h2)(m:d.objs.size<=L)(v:∀b∈ns,d.get? b=none):Un fs [] i H d h2:=by
 have x:∀b o,d.get? b=some o->b≠L:=λb o q z=>absurd (LG q) (by rw[z];exact Nat.not_lt.mpr m);have j:∀b o,d.get? b=some o->b∉ns:=λb o q z=>by rw[v b z]at q;cases q
 refine⟨λb o q n c hx=>p.keep b o (u.keep b o q n c hx) (λz=> ?_) (j b o q),λb o q n c hx=> ?_,u.free,λb o q hx=> ?_,u.tups,u.frzs,u.tbls⟩
 ·rcases LB.mp z with r|r
  ·exact x b o q r
  ·exact c r
 ·obtain⟨s,e⟩:=u.slot b o q n c hx
  obtain⟨g,f⟩:=p.slot b _ e (Kx _ c);exact⟨g,f⟩
 ·obtain⟨y,e⟩:=u.there b o q hx
  by_cases c:b∈L::fs
  ·obtain⟨s,f⟩:=p.slot b _ e c
   exact⟨_,f⟩
  ·exact⟨_,p.keep b _ e c (j b o q)⟩
end
def sN(P:Program)(w:World)(C:Addr):sO:=λouter H s E u s' =>
 ∃e T a b,u=.ref e/\s'.os=s.os/\AllBare s'.gens/\Un (sK outer) [] H a s.heap s'.heap/\dm P w a s'.heap/\s.heap.get? e=none/\s.heap.get? T=none/\a e=none/\a T=none /\ xw s'.heap e T (.ref C) b .none/\E (.ref C) b a
section
variable{P:Program}{w:World}{K:W.Frag}{mg:Str->Option Value}{base:Heap}{N:List Str}{qual:Str}{scope:Scope}{f C:Addr}{cd:Value}{A:Around}{outer:List Env}{s s1:Shared}{H H1:Hp}{E:XK}
 {pins:List (Addr×Obj)} {σ:St}
set_option tactic.hygienic false
theorem wn{args:List Value}(I:Inv (dg (sN P w C) P w K mg base N qual scope f cd A outer s H E) pins σ H1 s1)(a:Heap.MadeExcOf s1.heap b e (.ref C) args)(q:E (.ref C) none H1) :
  (dg (sN P w C) P w K mg base N qual scope f cd A outer s H E).xe (.ref e) {s1 with heap:=b}:=by
 have J:Inv (dg (sN P w C) P w K mg base N qual scope f cd A outer s H E) pins σ H1 {s1 with heap:=b} :=
  I.call' (ch:=[]) rfl (Un.kept a.keeps) (I.hok.kept a.keeps) I.bare (λb z=>absurd z (by simp))
 obtain⟨t,h,-,-⟩:=a.there;have c:s.heap.get? e=none:=by
  cases q:s.heap.get? e with
  |none=>rfl|some o =>obtain⟨g,z⟩:=I.base.there e o q (Li);rw[a.new]at z;cases z
 have d:=il I.hok a.new;refine jp J.ok.frames J.stack rfl h rfl rfl λh2 T up hT fly=> ?_;refine⟨e,T,H1,none,rfl,J.os,J.bare,yE J.base up J.ok.above (λb m=>by rw[LF.mp m];exact c),lI J.hok up J.stkFree (λb m=>by rw[LF.mp m];exact d),c,?_,d,il J.hok hT,fly,q⟩;cases q:s.heap.get? T with
 |none=>rfl|some o =>obtain⟨g,z⟩:=J.base.there T o q (Li);rw[hT]at z;cases z
theorem vF(Q:∀c i,l (.ref C) c i ->E (.ref C) c i):o6 (sN P w C) (dg (sN P w C) P w K mg base N qual scope f cd A outer s H E) l:=by
 intro a v Y x u X I ⟨e,T,h,c,D,U,W,M,S,j,L,n,R,d,q⟩;subst D;have J:=I.call' U M S W (λb z=>absurd z (by simp));have g:∀b,x.heap.get? b=none->s.heap.get? b=none:=λb z=>by
  cases q:s.heap.get? b with
  |none=>rfl|some o =>obtain⟨O,y⟩:=I.base.there b o q (Li);rw[z]at y;cases y
 have p:∀b∈[e,T],s.heap.get? b=none/\h b=none:=λb m=>by
  rcases LB.mp m with r|r
  ·rw[r];exact⟨g _ j,n⟩
  ·rw[LF.mp r];exact⟨g _ L,R⟩
 refine AF J.ok.frames J.stack rfl d λh2 T' up hT fly' => ?_;refine⟨e,T',h,c,rfl,J.os,J.bare,yE J.base up J.ok.above (λb m=>(p b m).1),lI J.hok up J.stkFree (λb m=>(p b m).2),g _ j,?_,n,?_,fly',Q _ _ q⟩
 ·cases q:s.heap.get? T' with
  |none=>rfl|some o =>obtain⟨O,z⟩:=J.base.there T' o q (Li);rw[hT]at z;cases z
 ·exact il J.hok hT
end
def yV(E:XK)(C:Addr):TS:=λ_ _ H=>E (.ref C) none H
set_option tactic.hygienic false
theorem wq{B:String}(O:OwnCls x C bm newId X.mg X.base)(Fn:ExcBaseFacts Bn newId inN bmN)(hBn:bm.contains (.type Bn)=true)
  (FB:ExcBaseFacts B nid initId bm) (hc:X.calm=true) (hg:Gl X x)
  (hx:∀pins σ H s h' e,Inv X pins σ H s->Heap.MadeExcOf s.heap h' e (.ref C) []->E (.ref C) none H->X.xe (.ref e) {s with heap:=h'}) (hd:(x==("__debug__":Str))=false:=by decide) :
  PS X (.Raise (some (.Call (.Name x np) [] [] cpos)) none pos) (yV E C):=by
 intro pins s σ H D I q;obtain⟨tl,N,nm,qn,bs,hdct,sn,sub,ab,col,dd,k0,k1,k2,k3,k5,mN,hC,hN,hni,T⟩:=O.obj
 refine wpAny_Raise_call_subU (nm:=nm) (q:=qn) (N:=N) (bs:=bs) (hdct:=hdct) (sn:=sn) (sub:=sub) (ab:=ab) (col:=col) (dd:=dd) (k0:=k0) (k1:=k1) (k2:=k2) (k3:=k3) (k5:=k5)
  Fn hBn FB (T.hasType FB.hasBase) (I.ok.hd hc) rfl hni (fj I hg O.bound ⟨rfl,?_⟩ hd)
 exact evalArgs_empty ⟨rfl,LY _,I.bk _ _ hC,hN.keeps I.bk,T.keeps I.bk,λh' e m=>hx pins σ H s h' e I m q⟩
end L2.XN
namespace L2.XN
open PySem PySem.Spec PyProof.Rows L2 XE
section
variable{X:Cx}{pins:List (Addr×Obj)}{σ:St}{H:Hp}{s:Shared}{Wh:Value->Shared->Prop}{A:Around}{cm:Bool}
abbrev zP(X:Cx)(pn:List (Addr×Obj))(a:Value->Shared->Prop):Cx:={X with pn:=pn,xe:=a}
abbrev DQ(X:Cx)(e:Addr)(pn:List (Addr×Obj)):Cx:={X with A:=X.A.mark (some (.ref e)),calm:=false,pn:=pn,xe:=λ_ _=>False}
set_option tactic.hygienic false
theorem pinned(I:Inv X pins σ H s):Inv (zP X (X.pn++pins) Wh) [] σ H s := ⟨⟨I.ok.mod,I.ok.kind,I.ok.glob,I.ok.blt,I.ok.above,I.ok.inj,I.ok.has,I.ok.cab,I.ok.hd,I.ok.frames,I.ok.stk,I.ok.exf,I.ok.bs,I.ok.bsz,I.ok.noex,I.ok.exfs,I.ok.funs,I.ok.frf⟩,I.os,I.bare,I.base,I.loc,I.cell,I.free,I.freeC,λp hp=>I.pin p (by rw[MP]at hp;exact hp),I.hok,I.len⟩
theorem unpinned(a:X.Ok)(I:Inv (zP X (X.pn++pins) Wh) b σ H s):Inv X pins σ H s := ⟨a,I.os,I.bare,I.base,I.loc,I.cell,I.free,I.freeC,λp hp=>I.pin p (LQ _ hp),I.hok,I.len⟩
theorem Jj(I:Inv X pins σ H s){pn:List (Addr×Obj)}(a:∀p∈pn,s.heap.get? p.1=some p.2/\H p.1=none/\p.1≠X.env.locals/\p.1∉X.fs/\∀v,p.2.data≠.cell v):Inv (DQ X e pn) [] σ H s := ⟨⟨I.ok.mod,I.ok.kind,I.ok.glob,I.ok.blt,I.ok.above,I.ok.inj,I.ok.has,I.ok.cab,(λz=>by cases z),I.ok.frames,I.ok.stk,I.ok.exf,I.ok.bs,I.ok.bsz,I.ok.noex,I.ok.exfs,I.ok.funs,I.ok.frf⟩,I.os,I.bare,I.base,I.loc,I.cell,I.free,I.freeC,λp m=>a p (by rw[MP]at m;exact m),I.hok,I.len⟩
theorem JR(a:X.Ok){pn:List (Addr×Obj)}(I:Inv (DQ X e pn) [] σ H s)(b:∀p∈X.pn++pins,p∈pn):Inv X pins σ H s := ⟨a,I.os,I.bare,I.base,I.loc,I.cell,I.free,I.freeC,λp m=>I.pin p (LQ _ (b p m)),I.hok,I.len⟩
theorem HH{A:Around}{i:Nat}{v:V}(I:Inv X pins σ H s)(U:X.N.Nodup)(w:X.N[i]? =some x)(g:X.env.scope.names.lookup x=some .local)(Z:σ[i]? =some (some v))
  (h:∀K,Inv X pins (σ.set i none) H K ->Q () K):wpAny M A (unbindName X.env x) Q E s:=by
 obtain⟨m,O,L⟩:=id I.loc;obtain⟨u,-,l⟩:=L i x v w Z (.inl g);have hm:m x=some u:=by
  rcases l with l|⟨k,_⟩
  ·exact l.2
  ·have J :X.env.scope.names.lookup x=some .cell\/X.env.scope.names.lookup x=some .free:=k
   rw[g]at J
   rcases J with z|z<;>cases z
 obtain⟨oL,_,_,T,_⟩:=id O;refine wpAny_unbindName_local g O hm (by rw[I.ok.kind];rfl) λh' u' hn' hs=> ?_;have f:∀b o,X.s₀.heap.get? b=some o->b≠X.env.locals:=λb o e=>LV (La (LG e) I.ok.above)
 refine h _ ⟨I.ok,I.os,I.bare,⟨λb o e n hb hx=>(hs.2 b (f b o e)).trans (I.base.keep b o e n hb hx),λb o e n hb hx=> ?_,I.base.free,λb o e hx=> ?_,I.base.tups,I.base.frzs,I.base.tbls⟩,⟨_,hn',λj y v' e1 e2 e3=> ?_⟩,λy c e=> ?_,I.free,I.freeC,λp hp=> ?_,λb ob e=> ?_,by simpa using I.len⟩
 ·obtain⟨sl,q⟩:=I.base.slot b o e n hb hx
  exact⟨sl,(hs.2 b (f b o e)).trans q⟩
 ·obtain⟨Y,q⟩:=I.base.there b o e hx
  exact⟨Y,(hs.2 b (f b o e)).trans q⟩
 ·by_cases C:j=i
  ·subst C
   rw[Ll (by rw[I.len];exact(Kw.mp w).1)]at e2;cases e2
  ·rw[Lf (MC C)]at e2
   obtain⟨a,S,q⟩:=L j y v' e1 e2 e3;refine⟨a,S,?_⟩
   rcases q with⟨k,q⟩|⟨k,c,q,z⟩
   ·have W:y≠x:=λz=>C (iY U e1 (z▸w))
    exact .inl ⟨k,by simp[W,q]⟩
   ·exact .inr ⟨k,c,q,z.sameBut hs (I.cne y c q)⟩
 ·obtain⟨a,z⟩:=I.cell y c e
  exact⟨a,z.sameBut hs (I.cne y c e)⟩
 ·obtain⟨q,n,D,R,d⟩:=I.pin p hp
  exact⟨(hs.2 p.1 D).trans q,n,D,R,d⟩
 ·refine(I.hok b ob e).stay (λc a hc q=>(hs.2 c λz=> ?_).trans q) (λ_ q=>q) λ_ _ q=>q
  rcases hc with r|r
  ·rw[r]at z;rw[z,I.free]at e;cases e
  ·rw[z,I.free]at r;cases r
def BP(d:sO)(X:Cx)(E:St->XK):Prop:=∀(a:List (Addr×Obj))(b:St)(H:Hp)(s:Shared)(u:Value)(c :Shared),Inv X a b H s->d X.stack H s (E b) u c ->X.xe u c
def FL(b:Sp)(a:List V)(E:St->XK)(t:TA):TE:=λσ H Q=>t σ H λvs H1=>b (vs++a) H1 Q (E σ)
theorem qP{m:sO}{k:Nat}{o:FuncData}{i:List Str}{n:Sp}{t:TA}(F:aq X.prog X.w X.K X.mg X.base m k f o i n)(z:cM k X.A)(L:Gl X x)
  (N:X.mg x=some (.ref f)) (D:W.keepIn X.K (.ref f)=true) (S:Binds X.K o i d) (R:aN a d) (C:BP m X E) (M:PA X (e::c) t) (j:(x==("__debug__":Str))=false:=by decide)
  (y:starEach (e::c) X.env=(false,eval e X.env)::starEach c X.env:=by rfl) (l:(backTo pos (starEach c X.env)).any (·.1)=false:=by rfl):PE X (.Call (.Name x p) (e::c) [] pos) (FL n a E t):=by
 intro b s g H Q I h;refine NW (fj I L N ?_ j);refine W.callWith_K I.ok.mod.kin D (am (M pos b s g H _ I h) λus s1 ⟨vs,H1,I1,r,q⟩=>⟨I1.kIn,?_⟩) y l;have v:=r.append R;have O:(us++d).length=i.length:=by rw[<- v.length];exact F.len _ _ _ _ q
 refine OD (codeAny_mono (F.run X.A X.stack s1 H1 ⟨us,[]⟩ (us++d) (vs++a) Q (E g) z I1.env0 (S s1 us I1.kIn O) v q) λr s' hq=> ?_);cases r with
 |error u=>exact C b g H1 s1 u s' I1 hq|ok J =>
  cases J with
  |ret u=>exact I1.after hq|next=>exact hq.elim|brk=>exact hq.elim|cont=>exact hq.elim
theorem yD{i:Heap}(u:Un d [] j H c l)(p:Up d g l i)(v:∀b∈g,c.get? b=none):Un d [] j H c i:=by
 have m:∀b o,c.get? b=some o->b∉g:=λb o q z=>by rw[v b z]at q;cases q
 refine⟨λb o q n a hx=>p.keep b o (u.keep b o q n a hx) a (m b o q),λb o q n a hx=> ?_,u.free,λb o q hx=> ?_,u.tups,u.frzs,u.tbls⟩
 ·obtain⟨r,e⟩:=u.slot b o q n a hx
  obtain⟨f,h⟩:=p.slot b _ e a;exact⟨f,h⟩
 ·obtain⟨w,e⟩:=u.there b o q hx
  by_cases a:b∈d
  ·obtain⟨r,h⟩:=p.slot b _ e a
   exact⟨_,h⟩
  ·exact⟨_,p.keep b _ e a (m b o q)⟩
def BF(i:Nat)(D:cO):cO:={nx:=λσ H=>D.nx (σ.set i none) H,rt:=D.rt,bk:=λσ H=>D.bk (σ.set i none) H,ct:=λσ H=>D.ct (σ.set i none) H}
end
end L2.XN
namespace L2.XN
open PySem PySem.Spec PyProof.Rows L2 XE
structure BQ(K:W.Frag)(mg:Str->Option Value)(x:Str)(C:Addr):Prop where
 nm:mg x=some (.ref C)
 cl:(W.clsIn K C).isSome=true
 ty:W.typeIn K (.ref C)=some (.type "type")
section
variable{K:W.Frag}{mg:Str->Option Value}{x:Str}{C D:Addr}{b:Bool}
set_option tactic.hygienic false
theorem BQ.kcls(k:BQ K mg x D)(h:W.subIn K (.ref C) (.ref D)=some b):W.kitCls K (.ref C) (.ref D)=some b:=by show(if((W.clsIn K D).isSome&&W.typeIn K (.ref D)==some (.type "type"))=true then W.subIn K (.ref C) (.ref D)else none)=some b;rw[K5 (by rw[k.cl,k.ty];rfl)];exact h
set_option tactic.hygienic true in
theorem BQ.kit(k:BQ K mg x D)(h:W.subIn K (.ref C) (.ref D)=some b)(a:C=D->b=true):W.kitOne K (.ref C) (.ref D)=some b:=by
 unfold W.kitOne
 split
 ·rename_i z
  rw[a (Value.ref.inj (Lx.mp z))]
 ·exact k.kcls h
theorem BQ.exm(k:BQ K mg x D)(h:W.subIn K (.ref C) (.ref D)=some b)(a:W.subIn K (.ref D) (.type "BaseException")=some true):W.exmOne K (.ref C) (.ref D)=some b:=by unfold W.exmOne;rw[K5 (by rw[a];rfl)];exact k.kcls h
theorem GU(h:W.subIn K (.ref C) (.type T)=some b)(a:W.kitMeta T=true):W.kitOne K (.ref C) (.type T)=some b:=by unfold W.kitOne;show(if W.kitMeta T=true then W.subIn K (.ref C) (.type T)else none)=some b;rw[K5 a];exact h
set_option tactic.hygienic true in
theorem F9(X:K.In h)(v:mg x=some (.ref C))(q:W.excIn K C f a=true):OwnCls x C f a mg h:=by
 refine⟨v,?_⟩;unfold W.excIn at q
 split at q
 case h_2=>cases q
 rename_i T y w c
 split at q
 case h_2=>cases q
 rename_i H u I S O J n Q g e;simp only[Kt,Lx,M1]at q;obtain⟨⟨⟨⟨⟨s,m⟩,i⟩,p⟩,d⟩,j⟩:=q;subst s m;obtain⟨N,U,R,A,L,E,Y,M,z,o,r⟩:=y;subst g i;obtain⟨l⟩:=w;subst e;exact⟨u,_,_,_,_,_,_,_,_,_,_,_,_,_,_,_,_,X _ _ c,.of_isNs (W.isNs_of_in X d),W.nsMap_none_of_in X d j,W.tail_of_in X p⟩
end
theorem Gz{P:Program}{K:W.Frag}{k:Nat}{i:FuncData}(c:∀b H Q E,d b H Q E->b.length=g.length)
  (h:Mod K e a->aq P w K e a j k f i g d):aq P w K e a j k f i g d :=
 ⟨c,λA outer s H args us b Q E hr he=>(h he.mod).run A outer s H args us b Q E hr he⟩
end L2.XN
namespace XE
open PySem
section
variable{M:Model}{A:Around}{E:Value->Shared->Prop}{h:Heap}{g:Array GenState}{d:Drawn}{t:Nat}{os:OsState}
variable{nm q:Str}{C N:Addr}{bs bm bmB:List Value}{hdct:Bool}{sn:List Str}{sub:List Value}{ab:Bool}{col:Option Bool}{dd:Option Addr}{k0 k1 k2 k3 k5:Option Value}{B Bn newId nid initId inN:String}{bmN:List Value}
set_option tactic.hygienic false
theorem uM(b:ExcBaseFacts Bn newId inN bmN)(e:bmB.contains (.type Bn)=true)(T:OwnTail h bmB bm){i:List (Str×Value)}(c:h.get? C=some (excClassObj nm q C N bs bm hdct sn sub ab col dd k0 k1 k2 k3 k5 newId))
  (l:Q () ⟨h,g,d,t,os⟩):wpAny M A (checkBuiltinCall newId ⟨.ref C::j,i⟩) Q E ⟨h,g,d,t,os⟩:=by
 have a:(Value.ref C::bm).contains (.type Bn)=true:=by rw[MU,T.hasType e,Nt]
 have f:=b.noStar;simp only[checkBuiltinCall,b.newKind,b.newSplit,b.newRow]
 repeat(first|refine Mh c ?_|(refine N4 c ?_;rw[a])|refine wpAny_staticBase_exc c ?_|refine wpAny_madeBy_exc c ?_|simp only[bne_self_eq_false,Nw,NM]|wp_step)
 exact l
end
section
variable{prog:Program}{w:World}{A:Around}{R:Result->Shared->Prop}{h:Heap}{g:Array GenState}{d:Drawn}{t:Nat}{os:OsState}
variable{nm q:Str}{C N:Addr}{bs bm bmB:List Value}{hdct:Bool}{sn:List Str}{sub:List Value}{ab:Bool}{col:Option Bool}{dd:Option Addr}{k0 k1 k2 k3 k5:Option Value}{B Bn newId nid initId inN:String}{bmN:List Value}
set_option tactic.hygienic false
theorem Ah(a:ExcBaseFacts Bn newId inN bmN)(f:bmB.contains (.type Bn)=true)(F:ExcBaseFacts B nid initId bmB)(T:OwnTail h bmB bm){n:List (Str×Value)}(e:h.get? C=some (excClassObj nm q C N bs bm hdct sn sub ab col dd k0 k1 k2 k3 k5 newId))
  (o:R (.ok (.ret (.ref (h.objs.size+1)))) ⟨(h.push {cls:=.type "tuple",data:=.seq l.toArray}).push {cls:=.ref C,data:=.fields #[.ref h.objs.size,.none,.none,.none,.bool false,.none]},g,d,t,os⟩) (i:l.length<=sizeLine:=by size_fits) :
  codeAny (model prog w) A (.builtin newId ⟨.ref C::l,n⟩) R ⟨h,g,d,t,os⟩:=by
 have b:=a.ends;have j:(Value.ref C::bm).contains (.type Bn)=true:=by rw[MU,T.hasType f,Nt]
 have c:(Value.ref C::bm).contains (.type "AttributeError")=false:=by rw[MU,T.hasType F.noAttr];rfl
 have m:(Value.ref C::bm).contains (.type "NameError")=false:=by rw[MU,T.hasType F.noName];rfl
 refine codeAny_builtinAt a.entry ?_;unfold Builtin.«BaseException.__new__»;refine wpAt_bind ?_;show wpAt _ _ _ (stack >>= _) _ _ _;refine wpAt_bind (wpAt_stack λp below=>wpAt_of_wpAny ?_)
 wp_walk
 refine wpAt_of_wpAny ?_;rw[a.owner]
 repeat(first|with_reducible refine wpAny_madeHere_exc a.canon e ?_|with_reducible refine Mh e ?_|(with_reducible refine N4 e ?_;first|rw[j]|rw[c]|rw[m])|wp_step)
 show R _ _;rw[OF];exact o
end
section
variable{prog:Program}{w:World}{A:Around}{E:Value->Shared->Prop}{h:Heap}{g:Array GenState}{d:Drawn}{t:Nat}{os:OsState}
variable{nm q:Str}{C N:Addr}{bs bm bmB:List Value}{hdct:Bool}{sn:List Str}{sub:List Value}{ab:Bool}{col:Option Bool}{dd:Option Addr}{k0 k1 k2 k3 k5:Option Value}{B Bn newId nid initId inN:String}{bmN:List Value}
set_option tactic.hygienic false
theorem sS(n:ExcBaseFacts Bn newId inN bmN)(j:bmB.contains (.type Bn)=true)(F:ExcBaseFacts B nid initId bmB)(T:OwnTail h bmB bm)
  (l:h.get? C=some (excClassObj nm q C N bs bm hdct sn sub ab col dd k0 k1 k2 k3 k5 newId)) (L:h.Ns N y) (I:y "__init__"=some (.ref z)) (s:h.get? z=some D) (p:D.cls=.type "function")
  (K:∀u e,h.objs.size<=e->Heap.MadeExcOf h u e (.ref C) c->wpAny (model prog w) A (call (.ref z) (.ref e::c) H) (λr s' =>r=.none/\Q (.done (.ret (.ref e))) s') E ⟨u,g,d,t,os⟩) (hrest:c.length<=sizeLine:=by size_fits) :
  wpAny (model prog w) A (Builtin.«type.__call__» ⟨.ref C::c,H⟩) Q E ⟨h,g,d,t,os⟩:=by
 repeat(first|with_reducible refine Mh l ?_|with_reducible refine wpAny_madeBy_exc l ?_|wp_step)
 refine codeAny_call_builtin_code (Code.quiet_builtin _ n.quiet) (uM n j T l ?_);refine Ah n j F T l ?_ hrest;show wpAny _ _ _ _ _ _
 have a:=Ks {cls:=.ref C,data:=.fields #[.ref h.objs.size,.none,.none,.none,.bool false,.none]}
  (Ks {cls:=.type "tuple",data:=.seq c.toArray} l)
 have b:=Ks {cls:=.ref C,data:=.fields #[.ref h.objs.size,.none,.none,.none,.bool false,.none]}
  (Ks {cls:=.type "tuple",data:=.seq c.toArray} s)
 have i:((h.push {cls:=.type "tuple",data:=.seq c.toArray}).push {cls:=.ref C,data:=.fields #[.ref h.objs.size,.none,.none,.none,.bool false,.none]}).Ns N y :=
  let⟨o,es,ep,e,r⟩:=L;⟨o,es,ep,Ks _ (Ks _ e),r⟩
 have f:((h.push {cls:=.type "tuple",data:=.seq c.toArray}).push {cls:=.ref C,data:=.fields #[.ref h.objs.size,.none,.none,.none,.bool false,.none]}).get? (h.objs.size+1)=some
   {cls:=.ref C,data:=.fields #[.ref h.objs.size,.none,.none,.none,.bool false,.none]}:=by heap_get
 have v:(Value.ref C::bm).contains (.ref C)=true:=by simp
 have m:=T.keeps (h' :=(h.push {cls:=.type "tuple",data:=.seq c.toArray}).push {cls:=.ref C,data:=.fields #[.ref h.objs.size,.none,.none,.none,.bool false,.none]})
  λb o e=>Ks _ (Ks _ e)
 unfold isInstance
 repeat(first|with_reducible refine Mh f ?_|(with_reducible refine N4 a ?_;rw[v])|wp_step)
 show wpAny _ _ (typeLookup (.ref C) _) _ _ _;refine wpAny_typeLookup_tail a i m F.mroIs F.init.lookup ?_;rw[I];refine MH (Ku ?_);unfold bindSpecial;refine Ku (wpAny_typeOf (T:="function") ⟨_,b,p⟩ ?_);rw[K5 (by decide)];refine LS (Ku (MF (K _ (h.objs.size+1) (Ni _) ⟨λb o hb=>Ks _ (Ks _ hb),Nu (Ni _),h.objs.size,f,Nu (Ky _),?_⟩) (λr s' hr=> ?_) λ_ _ x=>x))
 ·exact Ks _ (Heap.get?_push_at rfl rfl)
 ·obtain⟨rfl,J⟩:=hr
  wp_walk
  exact J
theorem xW(Fn:ExcBaseFacts Bn newId inN bmN)(hBn:bmB.contains (.type Bn)=true)(F:ExcBaseFacts B nid initId bmB)(T:OwnTail h bmB bm){aa:List Value}
  (hC:h.get? C=some (excClassObj nm q C N bs bm hdct sn sub ab col dd k0 k1 k2 k3 k5 newId)) (hn:h.Ns N mN) (hi:mN "__init__"=some (.ref fI)) (hfI:h.get? fI=some oI) (hfc:oI.cls=.type "function")
  (hq:∀h' e,h.objs.size<=e->Heap.MadeExcOf h h' e (.ref C) aa->wpAny (model prog w) (A.under (.builtin "type.__call__" ⟨.ref C::aa,kw⟩)) (call (.ref fI) (.ref e::aa) kw) (λr s' =>r=.none/\Q (.ref e) s') E ⟨h',g,d,t,os⟩) (hrest:aa.length<=sizeLine:=by size_fits) :
  wpAny (model prog w) A (call (.ref C) aa kw) Q E ⟨h,g,d,t,os⟩:=by
 have f1:=tc_lookup;have f2:=tc_bind (.ref C);have hT:(⟨h,g,d,t,os⟩:Shared).TypeIs (.ref C) "type":=⟨_,hC,rfl⟩;refine OD (codeAny_of_tree ?_);show wpAny _ _ (callAny (.ref C) _) _ _ _
 repeat(any_goals (first|assumption|with_reducible refine Mh hC ?_|wp_step))
 refine⟨rfl,?_⟩;have typ:W.Looks (model prog w) h (isInstance (.ref C) (.type "type")) true:=((W.Looks.ld hC).andThen .now).andThen (W.Looks.of_pure tc_sub);refine codeAny_call_builtin_at (Code.quiet_builtin _ (by decide +kernel)) entry_typeCall (W.check_slot tc_kind tc_split typ (W.tc_args _ _ _) (sS (hrest:=hrest) Fn hBn F T hC hn hi hfI hfc λh' e hz hm=> ?_));exact hq h' e hz hm
end
set_option tactic.hygienic false
theorem pf(T:OwnTail h b c)(d:refuseLoop a "__setattr__" b=pure ()):refuseLoop a "__setattr__" c=pure ():=by
 induction T with
 |base=>exact d|own _ _ _ _ e=>rw[refuseLoop_ref];exact e
section
open PySem.W Builtin Builtin.ObjectAttr
variable{prog:Program}{w:World}{A:Around}{E:Value->Shared->Prop}{s:Shared}{K:Frag}{x C:Addr}{name:Str}{v:Value}{cd:ClassData}{o:Obj}
theorem setx(X:K.In s.heap)(hx:s.heap.get? x=some o)(hcl:o.cls=.ref C)(hdn:o.dict=none)(hfd:∃vs,o.data=.fields vs)(hs:findIn K (.ref C) "__setattr__"=some (some (.builtin "object.__setattr__")))
  (hc:clsIn K C=some cd) (hd:cd.hasDict=true) (hob:mroIn K C (.type "object")=some true) (hp:refuseLoop (.ref x) "__setattr__" cd.mro=pure ()) (ht:takerIn K C name=some none)
  (h:∀h' d tk,s.heap.objs.size<=d->h'.get? x=some {o with dict:=some d}->h'.Ns1 d (λy=>if y=name then some v else none)->(∀b ob,b≠x->s.heap.get? b=some ob->h'.get? b=some ob)->Q () {s with heap:=h',toks:=tk}) :
  wpAny (model prog w) A (setAttr (.ref x) name v) Q E s:=by
 obtain⟨vs,hvs⟩:=hfd;have I:InstAt s.heap x o C none:=⟨hx,hcl,by unfold notCls;rw[hvs],by rw[hdn];trivial⟩;refine set_plain X I hs ?_;have SF:=PySem.F.store_object;have sub:Looks (model prog w) s.heap (isInstance (.ref x) (.type "object")) true:=I.type.andThen (looks_mroIn X hob);refine codeAny_call_builtin SF.slot.plain SF.entry (@check_slot (model prog w) _ _ {s with toks:=s.toks+1} "object.__setattr__" "object" "__setattr__" (.ref x) [.str name s.toks,v] [] _ SF.kind SF.split sub (SF.args (.ref x) (.str name s.toks) v) ?_);obtain⟨attr,ha,hr⟩:=Option.bind_eq_some_iff.mp ht;have hm:Looks (model prog w) s.heap (mroOf (.ref C)) cd.mro:=(looks_clsIn X hc).andThen .now;have L3:Looks (model prog w) s.heap (storeTaker? attr) none:=by
  cases attr with
  |none=>exact .now|some a =>
   obtain⟨b,hb,hb2⟩:=Option.map_eq_some_iff.mp hr;refine(looks_takesIn X hb).andThen ?_;cases b
   ·exact .now
   ·cases hb2
 rw[osa_eq,refuse_eq];refine Ku (Ku (I.type.here (s:={s with toks:=s.toks+1}) (Ku (hm.here (s:={s with toks:=s.toks+1}) ?_))));rw[hp];refine LS (Ku (I.type.here (s:={s with toks:=s.toks+1}) (Ku ((looks_findIn X ha).here (s:={s with toks:=s.toks+1}) (Ku (L3.here (s:={s with toks:=s.toks+1}) ?_))))));obtain⟨oc,odi,oda,osl⟩:=o;subst hcl hdn hvs;refine Ku (LS (Ku (Ku (wpAny_loadPart hx (Ku (Looks.here (looks_clsIn X hc) ?_))))));rw[hd];have hx₁:(s.heap.push {cls:=.type "dict",data:=.dict #[]}).get? x=some ⟨.ref C,none,.fields vs,osl⟩:=Ks _ hx;have hxs:=LV (LG hx);refine Ku (wpAny_alloc ?_);refine Ku (wpAny_update hx₁ ?_);refine LS ?_
 have hgd:((s.heap.push {cls:=.type "dict",data:=.dict #[]}).update x λo=>{cls:=o.cls,dict:=some s.heap.objs.size,data:=o.data,slots:=o.slots}).get? s.heap.objs.size
   = some {cls:=.type "dict",data:=.dict #[]} :=
  (Heap.get?_update_ne _ _ _ _ hxs.symm).trans (Heap.get?_push_at rfl rfl)
 have hnd:((s.heap.push {cls:=.type "dict",data:=.dict #[]}).update x λo=>{cls:=o.cls,dict:=some s.heap.objs.size,data:=o.data,slots:=o.slots}).Ns s.heap.objs.size (λ_=>none) :=
  ⟨_,#[],_,hgd,rfl,λe he=>absurd he (by simp),λ_=>rfl⟩
 refine Ku (LS (Ku (wpAny_nsSet1 (Heap.Ns1.of_empty hnd) λh' hn' hs=> ?_)));obtain⟨oD,esD,epD,hoD,hdD,hcD⟩:=hn'.count (Within.cons name v Within.nil);refine Ku (wpAny_lookBehind hoD (by rw[hdD];exact pastItsLine_dict (LM hcD (by rw[LK,List.length_nil,Lp];omega))) ?_);refine LS (h h' s.heap.objs.size _ (Ky _) ?_ hn' λb ob hbx hb=> ?_)
 ·exact(hs.2 x hxs).trans (Mc _ hx₁ rfl)
 ·exact(hs.2 b (LV (LG hb))).trans ((Heap.get?_update_ne _ _ _ _ hbx).trans (Ks _ hb))
end
end XE
namespace XE
open PySem PySem.W PyProof.Rows
section
variable{prog:Program}{w:World}{A:Around}{E:Value->Shared->Prop}{s:Shared}{K:Frag}{e C:Addr}{ox:Obj}{od:Option Obj}{name:Str}{v:Value}
set_option tactic.hygienic false
theorem Jo(c:XC K C)(X:K.In s.heap)(I:InstAt s.heap e ox C od)(i:findObj K C od name=some (.value v))(l:handedIn v=true)(h:Q v {s with toks:=s.toks+1}) :
  wpAny (model prog w) A (getAttr (.ref e) name a) Q E s:=by
 obtain⟨o,g,d,t,p⟩:=s;have b:=I.type (M:=model prog w);have j:=looks_findIn (M:=model prog w) X c.ga;have m:=looks_findIn (M:=model prog w) X c.gn;have n:=looks_find (M:=model prog w) X I i;refine Ku (wpAny_mkText (MH (Ku (b.at (Ku (j.at ?_))))));refine Ku ?_;refine m.at ?_;refine Ku (wpAny_attempt (MH ?_));rw[show∀f,callGetattribute (.ref e) f (.builtin "BaseException.__getattribute__") a=boundAndCalled (.builtin "BaseException.__getattribute__") (.ref e) f from λnv=>by cases a<;>rfl];unfold boundAndCalled;refine Ku (LS ?_);refine OD (codeAny_call_builtin F.attr_ValueError.ga.plain F.entry_bexc_ga (rC c X I ?_));refine Ku (LS ?_);refine Ku (LS ?_);refine Ku (b.at ?_);refine Ku (n.at ?_);refine LS ?_;show wpAny _ _ (handedOut v) _ _ _;rw[handedOut_of l];exact LS h
end
end XE
namespace L2.XN
open PySem PySem.Spec PyProof.Rows L2 XE
def XN(C:Addr)(a:Option Addr)(e:Addr):HO:=.ext λh=>∃t,h.get? e=some {cls:=.ref C,dict:=a,data:=.fields #[.ref t,.none,.none,.none,.bool false,.none]}
def XO(C:Addr)(b:Option Addr)(e:Addr):HO:=.ext λh=>∃o a,h.get? e=some o/\o.cls=.ref C/\o.dict=b/\o.data=.fields a
def Bb(H:Hp)(C:Addr)(a:Option Addr)(e:Addr):Prop:=H e=some (XN C a e)\/H e=some (XO C a e)
def qS(H:Hp)(e:Addr):Hp:=λb=>if b=e then none else H b
section
variable{P:Program}{w:World}{H H1 H2:Hp}{h h2:Heap}{e C:Addr}{dd:Option Addr}{o:HO}{fs ex:List Addr}
theorem EF{t:Addr}(q:h.get? e=some {cls:=.ref C,dict:=dd,data:=.fields #[.ref t,.none,.none,.none,.bool false,.none]}):au P w H h e (XN C dd e) := ⟨⟨t,q⟩,⟨_,q⟩,λ_ _ ⟨t,z⟩ k=>⟨t,k _ z⟩⟩
theorem IW(q:h.get? e=some a)(c:a.cls=.ref C)(f:a.dict=dd)(d:a.data=.fields b):au P w H h e (XO C dd e) := ⟨⟨a,b,q,c,f,d⟩,⟨_,q⟩,λ_ _ ⟨a,b,z,z1,z2,z3⟩ k=>⟨a,b,k _ z,z1,z2,z3⟩⟩
set_option tactic.hygienic false
theorem Bb.at(x:Bb H C dd e)(c:dm P w H h):∃a b,h.get? e=some a/\a.cls=.ref C/\a.dict=dd/\a.data=.fields b:=by
 rcases x with x|x
 ·obtain⟨⟨t,q⟩,_⟩:=c e _ x
  exact⟨_,_,q,rfl,rfl,rfl⟩
 ·obtain⟨⟨a,b,q,d,g,f⟩,_⟩:=c e _ x
  exact⟨a,b,q,d,g,f⟩
theorem Bb.mono(x:Bb H C dd e)(s:∀b o,H b=some o->H1 b=some o):Bb H1 C dd e:=x.imp (s _ _) (s _ _)
theorem mn(d:dm P w H h)(n:H e=none)(a:au P w (upd H e o) h e o):dm P w (upd H e o) h:=λb u q=>by
 by_cases c:b=e;subst c;rw[aD]at q;cases q;exact a
 ·rw[aA c]at q
  exact(d b u q).stay (λ_ _ _ z=>z) (λc z=>by rw[aA (aG z n)];exact z) λc xs z=>by rw[aA (aG z n)];exact z
theorem pZ(u:Un fs ex H H1 h h2)(n:h.get? e=none)(a:H1 e=none):Un fs ex H (upd H1 e o) h h2 := ⟨u.keep,u.slot,λb ob q z hx=>by rw[aA (λy=>by rw[y,n]at q;cases q)];exact u.free b ob q z hx,u.there,λb xs z=>by rw[aA (aG (u.tups b xs z) a)];exact u.tups b xs z,λb ob v z=>by rw[aA (aG (u.frzs b ob v z) a)];exact u.frzs b ob v z,λb ps z=>by obtain⟨m,y⟩:=u.tbls b ps z;exact⟨m,by rw[aA (aG y a)];exact y⟩⟩
theorem cE(h:b≠e):qS H e b=H b:=by unfold qS;rw[LC h]
theorem eB:qS H e e=none:=by unfold qS;rw[K5 rfl]
theorem DV(c:dm P w H h)(a:H e=some (.ext d)):dm P w (qS H e) h:=λb u q=>by
 have f:b≠e:=λz=>by rw[z,eB]at q;cases q
 rw[cE f]at q;exact(c b u q).stay (λ_ _ _ z=>z) (λc z=>by rw[cE (λy=>by rw[y,a]at z;cases z)];exact z) λc xs z=>by rw[cE (λy=>by rw[y,a]at z;cases z)];exact z
theorem Ey(u:Un fs ex H H1 h h2)(a:H1 e=some (.ext d)):Un fs ex H (qS H1 e) h h2 :=
 ⟨u.keep,u.slot,λb ob q z hx=>by
  by_cases c:b=e;rw[c,eB]
  ·rw[cE c];exact u.free b ob q z hx,u.there,λb xs z=>by rw[cE (λy=>by have:=u.tups b xs z;rw[y,a]at this;cases this)];exact u.tups b xs z,λb ob v z=>by rw[cE (λy=>by have:=u.frzs b ob v z;rw[y,a]at this;cases this)];exact u.frzs b ob v z,λb ps z=>by obtain⟨m,y⟩:=u.tbls b ps z;exact⟨m,by rw[cE (λx=>by rw[x,a]at y;cases y)];exact y⟩⟩
end
theorem tS{K:W.Frag}{n:Str}{v:Value}(X:K.In h)(G:h.Ns N a)(e:W.nsIn K N n=some (some v)):a n=some v:=by
 obtain⟨o,l,r,j,i,_,f⟩:=G;unfold W.nsIn at e
 split at e
 ·rename_i c d g m s q
  have:=X _ _ q;rw[j]at this;cases this;cases i
  split at e
  ·rename_i p b
   cases e;rw[<- f];unfold nsFind findBy;rw[<- Array.find?_toList,b];rfl
  ·split at e<;>cases e
 ·cases e
theorem oC{K:W.Frag}(X:K.In h)(q:excInI K C D=true):∃b N R U O c I i J f x p w s r u y,h.get? C=some (excClassObj R U C N O b c I i J f x p w s r u "ValueError.__new__")/\h.Ns N y/\y "__init__"=some (.ref D)/\OwnTail h KW b /\ ∀e,W.clsIn K C=some e->e.mro=.ref C::b:=by
 unfold excInI at q
 split at q
 case h_2=>cases q
 rename_i x e T a
 split at q
 case h_2=>cases q
 rename_i o b p w s r n u g m;simp only[Kt,Lx,M1]at q;obtain⟨⟨⟨⟨⟨Q,E⟩,v⟩,L⟩,j⟩,A⟩:=q;subst Q E;have S:∀d,W.clsIn K o=some d ->d.mro=.ref o::b:=λcd' z=>by unfold W.clsIn at z;rw[a]at z;cases z;exact g
 obtain⟨c1,c2,c3,Z,c5,c6,c7,c8,Y,H,M⟩:=e;subst g v;obtain⟨l⟩:=T;subst m;exact⟨b,_,_,_,_,_,_,_,_,_,_,_,_,_,_,_,_,X _ _ a,.of_isNs (W.isNs_of_in X j),tS X (.of_isNs (W.isNs_of_in X j)) A,W.tail_of_in X L,S⟩
structure EC(K:W.Frag)(C fI:Addr)(nm:Str):Prop where
 exc:excInI K C fI=true
 fn:∃oI,K.lookup fI=some oI/\oI.cls=.type "function"
 kp:W.keepIn K (.ref C)=true
 xc:XC K C
 sa:W.findIn K (.ref C) "__setattr__"=some (some (.builtin "object.__setattr__"))
 hd:W.hasDictIn K C=true
 tk:W.takerIn K C nm=some none
 at_:W.findIn K (.ref C) nm=some none
section
variable{X:Cx}{pins:List (Addr×Obj)}{σ:St}{H:Hp}{s:Shared}{C f e:Addr}{nm:Str}{k:Nat}{fd:FuncData}{ps:List Str}{sp:Sp}{E:XK}{Q:VK}{us ws:List Value}{zs:List V}{kw:List (Str×Value)}
set_option tactic.hygienic false
theorem CD(M:EC X.K C f nm)(F:aq X.prog X.w X.K X.mg X.base dI k f fd ps sp)(hr:cM (k+1) X.A)(hl:us.length<=sizeLine)(hb:∀(s:Shared) (e:Value),X.K.In s.heap->BindsTo s fd ⟨e::us,kw⟩ (ps.zip (e::ws)))(r:aN zs ws)(I:Inv X pins σ H s)
  (h:∀e,H e=none->sp (.ref e::zs) (upd H e (XN C none e)) (λv H2=>v=.non/\Q (.ref e) H2) E):wpAny (model X.prog X.w) X.A (call (.ref C) us kw) (EP X pins σ Q) X.xe s:=by
 obtain⟨tl,N,nm',qn,bs,hdct,sn,sub,ab,col,dd,k0,k1,k2,k3,k5,mN,hC,hN,hi,T,_⟩:=oC I.kIn M.exc;obtain⟨oI,hoI,hfc⟩:=M.fn;have FV:=PySem.F.excBase_ValueError;have go:∀h' e,s.heap.objs.size<=e->Heap.MadeExcOf s.heap h' e (.ref C) us->wpAny (model X.prog X.w) (X.A.under (.builtin "type.__call__" ⟨.ref C::us,kw⟩)) (call (.ref f) (.ref e::us) kw) (λr s' =>r=.none/\EP X pins σ Q (.ref e) s') X.xe {s with heap:=h'}:=λh' e hz hm=>by
  obtain⟨t,he,_,_⟩:=hm.there;have I2:=I.laid (t' :=s.toks) hm.keeps hz (EF he);refine OD (codeAny_mono (F.run _ X.stack _ _ ⟨.ref e::us,kw⟩ (.ref e::ws) (V.ref e::zs) _ E (hr.make C us kw) (I2.env0.make C us kw) (hb _ _ I2.kIn) (.cons rfl r) (h e (I.hok.fresh hz))) λr s' hq' => ?_);cases r with
  |error e=>exact hq'.elim|ok fl =>
   cases fl with
   |ret u =>obtain⟨v,H',I3,rv,ev,q3⟩:=I2.after hq';subst ev;exact⟨rv,⟨V.ref e,H',I3,rfl,q3⟩⟩
   |next=>exact False.elim hq'|brk=>exact False.elim hq'|cont=>exact False.elim hq'
 obtain⟨hp,g,d,t,os⟩:=s;exact xW FV (by decide) FV T hC hN hi (I.kIn _ _ hoI) hfc go hl
end
end L2.XN
namespace L2.XN
open PySem PySem.Spec PyProof.Rows L2 XE
section
variable{X:Cx}{pins:List (Addr×Obj)}{σ:St}{H:Hp}{s:Shared}{C f e:Addr}{nm x:Str}{k:Nat}{fd:FuncData}{ps:List Str}{sp:Sp}{E:XK}{Q:VK}{p pos pos' :Pos}{e1 o value:Expr}{es:List Expr}{t:TA}{ta tv te:TE}{dvs:List V}{ds:List Value}
def tMkx(C:Addr)(b:Sp)(a:List V)(E:XK)(t:TA):TE:=λσ H Q=>t σ H λvs H1=>vs.length<=sizeLine/\∀e,H1 e=none->b (.ref e::(vs++a)) (upd H1 e (XN C none e)) (λv H2=>v=.non/\Q (.ref e) H2) E
set_option tactic.hygienic false
theorem CG{us:List Value}(M:EC X.K C f nm)(F:aq X.prog X.w X.K X.mg X.base dI k f fd ps sp)(c:cM (k+1) X.A)(g:Binds X.K fd ps ds)(b:aN dvs ds)(I:Inv X pins σ H s)(r:aN a us)(i:a.length<=sizeLine)
  (h:∀e,H e=none->sp (.ref e::(a++dvs)) (upd H e (XN C none e)) (λv H2=>v=.non/\Q (.ref e) H2) E):wpAny (model X.prog X.w) X.A (call (.ref C) us) (EP X pins σ Q) X.xe s:=by
 have d:(Value.none::us++ds).length=ps.length:=by have e:=F.len _ _ _ _ (h s.heap.objs.size (I.hok.fresh (Ky _)));have j:=(r.append b).length;simp only[LK,K7]at e j ⊢;omega
 refine CD M F c (by rw[<- r.length];exact i) (λs e X=> ?_) (r.append b) I h;exact g s (e::us) X (by simpa using d)
theorem F6(M:EC X.K C f nm)(F:aq X.prog X.w X.K X.mg X.base dI k f fd ps sp)(j:cM (k+1) X.A)(l:Gl X x)(n:X.mg x=some (.ref C))(v:Binds X.K fd ps ds)(u:aN dvs ds)(m:PA X (c::es) t)
  (b:(x==("__debug__":Str))=false:=by decide) (i:starEach (c::es) X.env=(false,eval c X.env)::starEach es X.env:=by rfl) (d:(backTo pos (starEach es X.env)).any (·.1)=false:=by rfl):PE X (.Call (.Name x p) (c::es) [] pos) (tMkx C sp dvs E t):=by
 intro a s g H Q I h;refine NW (fj I l n ?_ b);refine W.callWith_K I.ok.mod.kin M.kp (am (m pos a s g H _ I h) λus s1 ⟨vs,H1,I1,r,hz,q⟩=>⟨I1.kIn,?_⟩) i d;exact CG M F j v u I1 r hz q
def JF(K:W.Frag)(a c:TE)(f:Str):TS:=λD σ H=>c σ H λy H1=>a σ H1 λx H2=>∃e C b,x=.ref e/\H2 e=some (XN C none e)/\EC K C b f/\∀d,H2 d=none->d≠e->D.nx σ (upd (upd H2 e (XN C (some d) e)) d (.xd [(f,y)]))
theorem CZ{f:Str}(U:PE X o ta)(Y:PE X value tv)(R:swapsWith value (some (.Attribute o f pos')) pos.line X.env=pure false):PS X (.Assign [.Attribute o f pos'] value pos) (JF X.K ta tv f):=by
 intro a s j H D I h;refine plainObj_wpAny_Assign_Attribute (am (Y a s j H _ I h) λu s1 ⟨y,H1,I1,ry,q⟩=>am (U a s1 j H1 _ I1 q) λov s2 ⟨x,H2,I2,rx,e,C,fI,ex,ea,M,q2⟩=> ?_) R;subst ex;obtain rfl:ov=Value.ref e:=rx;obtain⟨⟨t,w⟩,_⟩:=I2.hok e _ ea;obtain⟨n,r,Z⟩:=W.any_some M.hd;obtain⟨tl,N,S,qn,bs,L,sn,a0,ab,O,dd,k0,k1,k2,k3,k5,mN,hC,hN,hi,T,b⟩:=oC I2.kIn M.exc;refine setx I2.kIn w rfl rfl ⟨_,rfl⟩ M.sa r Z M.xc.ob ?_ M.tk λh' d tk hz hx hn kp=> ?_
 ·rw[b n r,refuseLoop_ref]
  exact pf T (PySem.F.store_ValueError.passes _)
 ·have c:d≠e:=λz=>absurd (LG w) (by rw[<- z];exact Nat.not_lt.mpr hz)
  have i:=I2.hok.fresh hz;have m:=Nu hz;have J:Inv X a j (upd (upd H2 e (XN C (some d) e)) d (.xd [(f,y)])) {s2 with heap:=h',toks:=tk}:=by
   have v:IL (H2 e):=by rw[ea];exact True.intro
   have A:upd H2 e (XN C (some d) e) d=none:=by rw[aA c];exact i
   refine I2.un (pZ (Un.write v (.inl rfl) kp ⟨_,hx⟩) m A) (mn (I2.hok.write v (.inl rfl) kp ⟨_,hx⟩ (EF hx)) A ⟨_,hn,λg=> ?_⟩);show iE ((match g==f with|true=>some y|false=>none):Option V) (if g=f then some u else none)
   by_cases l:g=f;rw[K5 l,Lx.mpr l];exact ry;rw[LC l,beq_false_of_ne l];exact True.intro
  exact⟨j,_,J,q2 d i c⟩
def EJ(K:W.Frag)(b:TE)(f:Str):TE:=λσ H Q=>b σ H λx H1=>∃e C c d a v,x=.ref e/\Bb H1 C (some d) e/\H1 d=some (.xd a)/\EC K C c f/\a.lookup f=some v/\Q v H1
theorem Ch{f:Str}(m:PE X o ta)(Z:attributeBase o f X.env (eval o X.env)=eval o X.env):PE X (.Attribute o f pos) (EJ X.K ta f):=by intro a s g H Q I h;refine EA Z (am (m a s g H _ I h) λu s1 hpq=> ?_);obtain⟨x,A,b,L,e,C,fI,d,fs,v,D,y,j,M,l,q⟩:=hpq;subst D;obtain rfl:u=Value.ref e:=L;obtain⟨z,vs,T,i,S,w⟩:=y.at b.hok;obtain⟨N,Y,r⟩:=b.hok d _ j;obtain⟨u',n,c⟩:=iE.some_of (by rw[<- l];exact r f);obtain⟨R,U,O⟩:=jR Y;have J:W.InstAt s1.heap e z C (some R):=⟨T,i,by unfold W.notCls;rw[w],by rw[S];exact U⟩;exact Jo M.xc b.kIn J (W.findObj_own M.hd M.at_ rfl (by rw[O,n])) (xK c) ⟨v,A,b.tok _,c,q⟩
theorem A6(xc:XC X.K C)(hu:∀v,RelV c v->v=u)(k:W.kitOne X.K (.ref C) u=some b):bO X (.builtin "isinstance") (λxs H Q=>∃e dd,xs=[.ref e,c]/\Bb H C dd e/\(∀d,dd=some d->∃fs,H d=some (.xd fs))/\Q (.bl b) H):=by
 intro pins s σ H xs us Q I r h;obtain⟨e,dd,rfl,hx,hd,q⟩:=h;obtain⟨u1,u2,rfl,r1,r2⟩:=vals2 r;cases r1;rw[hu u2 r2];obtain⟨ob,vs,h1,h2,h3,h4⟩:=hx.at I.hok;have ia:∃od,W.InstAt s.heap e ob C od:=by
  cases dd with
  |none=>exact⟨none,h1,h2,by unfold W.notCls;rw[h4],by rw[h3];trivial⟩|some d =>obtain⟨fs,ed⟩:=hd d rfl;obtain⟨mA,hn,r⟩:=I.hok d _ ed;obtain⟨od,ho,hl⟩:=jR hn;exact⟨some od,h1,h2,by unfold W.notCls;rw[h4],by rw[h3];exact ho⟩
 obtain⟨od,ia⟩:=ia;exact Mf (kitx xc) I.kIn ⟨ob,od,ia⟩ k (λz=>by cases z) λtk=>⟨.bl b,H,I.tok _,rfl,q⟩
end
def BN(s:Shared)(v:Value):Prop:=∃e t d C n q N m g b h f i c u j r o l p a,v=.ref e/\g.contains (.type "BaseException")=true/\s.heap.get? C=some (excClassObj n q C N m g b h f i c u j r o l p a) /\ s.heap.get? e=some {cls:=.ref C,dict:=d,data:=.fields #[.ref t,.none,.none,.none,.bool false,.none]}
set_option tactic.hygienic false
theorem qH{A:Around}{s:Shared}(m:A.handled=none)(h:wpAny M A x (λv s₁=>BN s₁ v/\E v s₁) E s) :
  wpAny M A (raiseStmt c (some x) none) Q E s:=by
 unfold raiseStmt;refine Ku (MF h (λv s₁ h₁=> ?_) λ_ _ x=>x);obtain⟨⟨e,t,d,C,J,q,N,I,o,j,u,r,w,l,S,z,R,K,D,L,b,rfl,a,i,n⟩,p⟩:=h₁;have f:(Value.ref C::o).contains (.type "BaseException")=true:=by rw[MU,a,Nt]
 obtain⟨O,g,d,y,H⟩:=s₁
 repeat(first|with_reducible refine Mh n ?_|with_reducible refine Mh i ?_|(with_reducible refine N4 i ?_;rw[f])|wp_step)
 exact wpAny_raiseNew_none m p
section
variable{X:Cx}{ex:Expr}{te:TE}{pos:Pos}
def Bu(K:PySem.W.Frag)(W:Addr->Addr->Option Addr->Hp->Prop)(c:TE):TS:=λ_ σ H=>c σ H λx H1=>∃e C b f a,x=.ref e/\EC K C b f/\H1 e=some (XN C a e)/\W e C a H1
theorem wo{W:Addr->Addr->Option Addr->Hp->Prop}(h:X.calm=true)(j:PE X ex te)(n:∀a c H s e C b,Inv X a c H s->H e=some (XN C b e)->W e C b H->X.xe (.ref e) s):PS X (.Raise (some ex) none pos) (Bu X.K W te):=by intro a s c H D I q;refine Ku (OJ ?_);refine qH (I.ok.hd h) (Ku (am (j a s c H _ I q) λu s1 ⟨x,H1,I1,rx,e,C,fI,f,b,ex,M,ea,w⟩=>Ku (OJ (LS ?_))));subst ex;obtain rfl:u=Value.ref e:=rx;obtain⟨⟨t,r⟩,_⟩:=I1.hok e _ ea;obtain⟨Q,N,l,Y,J,g,y,p,z,i,o,A,U,R,E,S,Z,m,O,L,T,d⟩:=oC I1.kIn M.exc;exact⟨⟨e,t,b,C,_,_,_,_,_,_,_,_,_,_,_,_,_,_,_,_,_,rfl,T.hasType rfl,m,r⟩,n a c H1 s1 e C b I1 ea w⟩
end
section
variable{P:Program}{w:World}{K:W.Frag}{mg:Str->Option Value}{base:Heap}{N:List Str}{qual:Str}{scope:Scope}{f C:Addr}{cd:Value}{A:Around}{outer:List Env}{s s1:Shared}{H H1:Hp}{E:XK}
 {pins:List (Addr×Obj)} {σ:St}
theorem tH(I:Inv (dg (sN P w C) P w K mg base N qual scope f cd A outer s H E) pins σ H1 s1)(i:H e=none)(a:H1 e=some (XN C d e))(q:E (.ref C) d (qS H1 e)) :
  (dg (sN P w C) P w K mg base N qual scope f cd A outer s H E).xe (.ref e) s1:=by
 obtain⟨⟨t,j⟩,_⟩:=I.hok e _ a;have g:s.heap.get? e=none:=by
  cases q:s.heap.get? e with
  |none=>rfl|some o=>rw[I.base.free e o q i (Li)]at a;cases a
 have h:∀b∈fr (envOfC qual scope s.heap.objs.size f cd::outer),qS H1 e b=none:=λb m=>by by_cases c:b=e;rw[c,eB];rw[cE c];exact I.stkFree b m
 refine jp I.ok.frames I.stack rfl j rfl rfl λh2 T up hT fly=> ?_;refine⟨e,T,qS H1 e,d,rfl,I.os,I.bare,Ey (yE I.base up I.ok.above (λb m=>by rw[LF.mp m];exact g)) a,lI (DV I.hok a) up h (λb m=>by rw[LF.mp m];exact eB),g,?_,eB,?_,fly,q⟩
 ·cases q:s.heap.get? T with
  |none=>rfl|some o =>obtain⟨l,z⟩:=I.base.there T o q (Li);rw[hT]at z;cases z
 ·by_cases c:T=e
  ·rw[c,eB]
  ·rw[cE c];exact il I.hok hT
end
end L2.XN
namespace L2.XN
open PySem PySem.Spec PyProof.Rows L2 XE
section
variable{X:Cx}{pins:List (Addr×Obj)}{σ:St}{H:Hp}{s:Shared}
def um(C:Addr)(i:Nat)(d:(St->XK)->TS)(f:Addr->Option Addr->TS):TS:=λD σ H =>
 ∃E:St->XK,d E D σ H/\∀a b c,a.length=σ.length->E a (.ref C) c b ->∀e,b e=none->f e c (BF i D) (a.set i (some (.ref e))) (upd b e (XO C c e))
set_option tactic.hygienic false
theorem n6{C D:Addr}{i:Nat}{n:Str}{body:List Stmt}(hcalm:X.calm=true)(hst:X.stack=X.env::X.outer)(hf:X.env.frame=some X.env.locals)(hN:X.N.Nodup)(hi:X.N[i]? =some n)
  (hk:X.env.scope.names.lookup n=some .local) (hg:Gl X bx) (hm:X.mg bx=some (.ref D)) (hx:W.exmOne X.K (.ref C) (.ref D)=some true)
  (hb:∀(E:St->XK)(pn:List (Addr×Obj))(Wh:Value->Shared->Prop),BP (sN X.prog X.w C) (zP X pn Wh) E->pB (zP X pn Wh) body (tb E))
  (hs:∀(e:Addr)(dd:Option Addr)(pn:List (Addr×Obj)),pB (DQ X e pn) (b0::suite) (ts e dd)) (hd:(bx==("__debug__":Str))=false:=by decide) :
  PS X (.Try body [.ExceptHandler (some (.Name bx bp)) (some n) (b0::suite) hpos] [] [] pos) (um C i tb ts):=by
 intro pins s σ H D' I ⟨E,hq,hh⟩;refine wpAny_Try_except ?_
 let Wh:Value->Shared->Prop:=λu s' =>wpAny (model X.prog X.w) X.A (noteFrame u X.env) (λ_ s2=>wpAny (model X.prog X.w) X.A (setFlight u none) (λ_ s3 =>wpAny (model X.prog X.w) X.A (handleBy u X.env [.ExceptHandler (some (.Name bx bp)) (some n) (b0::suite) hpos]) (SP X pins D') X.xe s3) X.xe s2) X.xe s'
 have hp:BP (sN X.prog X.w C) (zP X (X.pn++pins) Wh) E:=by
  intro p2 σ1 H1 s1 u s2 I1 ⟨e,T,H2,dd,hu,ho,hbr,un,ok,n1,n2,n3,n4,fly,q⟩;subst hu;have J1:Inv X pins σ1 H1 s1:=unpinned I.ok I1;have J2:Inv X pins σ1 H2 s2:=J1.call' (ch:=[]) ho un ok hbr (λb z=>absurd z (by simp));have hfr:X.A.frames=some (X.env::X.outer):=by rw[<- hst];exact I.ok.frames
  have hfs:s2.heap.FunFrames X.base (X.env::X.outer):=by rw[<- hst];exact J2.stack
  have ns:∀b∈[e,T],s1.heap.get? b=none/\H2 b=none:=λb m=>by
   rcases LB.mp m with r|r
   ·rw[r];exact⟨n1,n3⟩
   ·rw[LF.mp r];exact⟨n2,n4⟩
  have st:∀{h3:Heap},Up (fr (X.env::X.outer)) [e,T] s2.heap h3->Inv X pins σ1 H2 {s2 with heap:=h3}:=λ{h3} up=>by rw[<- hst]at up;exact J1.call' (ch:=[]) (s' :={s2 with heap:=h3}) ho (yD un up λb m=>(ns b m).1) (lI ok up J2.stkFree λb m=>(ns b m).2) hbr (λb z=>absurd z (by simp))
  refine Cu (base:=X.base) hfr hfs hf fly λh3 T' up hT fly3=> ?_;have J3:=st up;refine wpAny_handleBy_cons (codeAny_handlers_test ?_) (by intro z;cases z);have K3:Inv (DQ X e []) [] σ1 H2 {s2 with heap:=h3}:=Jj J3 (λp z=>absurd z (by simp));refine fj K3 hg hm ?_ hd;obtain⟨oe,vs,oT,tts,e1,e2,e3,e4,e5,e6,e7,e8,e9⟩:=id fly3;have lt:W.Looks (model X.prog X.w) h3 (typeOf (.ref e)) (.ref C):=e2▸(W.Looks.ld e1).andThen .now;refine(W.exm_one (M:=model X.prog X.w) K3.kIn lt hx).here ?_;refine codeAny_handlers_suite_as ?_;refine land (s:={s2 with heap:=h3}) fly3 λh4 k4 fly4=> ?_;obtain⟨oe4,vs4,oT4,ts4,f1,f2,f3,f4,f5,f6,f7,f8,f9⟩:=id fly4;have K4:Inv (DQ X e (X.pn++pins)) [] σ1 (upd H2 e (XO C dd e)) {s2 with heap:=h4}:=by
   have up4:=up.land hT k4;rw[<- hst]at up4
   have J5:=J1.call' (ch:=[]) (s' :={s2 with heap:=h4}) ho (pZ (yD un up4 λb m=>(ns b m).1) n1 n3)
    (mn (lI ok up4 J2.stkFree λb m=>(ns b m).2) n3 (IW f1 f2 f3 f4)) hbr (λb z=>absurd z (by simp))
   exact Jj J5 λp m=>J5.pin p m
  refine fH (X:=DQ X e (X.pn++pins)) K4 hN hi (.inl hk) (v:=.ref e) rfl (λs5 I5=> ?_) (.inr hk);refine MF (hs e dd _ [] s5 _ _ (BF i D') I5 (hh σ1 H2 dd ?_ q e n3)) (λf s6 r=> ?_) λ_ _ z=>z.elim
  ·rw[J1.len,I.len]
  have fin:∀σ6 H6 v0,Inv (DQ X e (X.pn++pins)) [] σ6 H6 s6->(∀s7,Inv X pins (σ6.set i none) H6 s7->SP X pins D' f s7)->v0=v0 -> wpAny (model X.prog X.w) X.A (do bindName X.env n .none;unbindBehindTheSuite X.env n hpos) (λ_ s3=>SP X pins D' f s3) X.xe s6:=λσ6 H6 (v0:Nat) I6 k _=>by
   have J6:Inv X pins σ6 H6 s6:=JR I.ok I6 λp m=>m;refine Ku (wpAny_bindName (fH J6 hN hi (.inl hk) (v:=.non) rfl (λs7 J7=> ?_) (.inr hk)));refine wpAny_onRaise (HH J7 hN hi hk (v:=.non) ?_ λs8 J8=> ?_)
   ·rw[Ll (by rw[J6.len];exact(Kw.mp hi).1)]
   ·rw[List.set_set]at J8
    exact k s8 J8
  cases f with
  |next =>obtain⟨σ6,H6,I6,q6⟩:=r;exact fin σ6 H6 0 I6 (λs7 J=>⟨_,_,J,q6⟩) rfl
  |brk =>obtain⟨σ6,H6,I6,q6⟩:=r;exact fin σ6 H6 0 I6 (λs7 J=>⟨_,_,J,q6⟩) rfl
  |cont =>obtain⟨σ6,H6,I6,q6⟩:=r;exact fin σ6 H6 0 I6 (λs7 J=>⟨_,_,J,q6⟩) rfl
  |ret u =>obtain⟨v,σ6,H6,I6,rv,q6⟩:=r;exact fin σ6 H6 0 I6 (λs7 J=>⟨v,_,_,J,rv,q6⟩) rfl
 refine MF (hb E _ Wh hp [] s σ H D' (pinned I) hq) (λf s1 r=> ?_) λ_ _ r=>r;cases f with
 |next =>obtain⟨σ6,H6,I6,q6⟩:=r;exact Ny ⟨σ6,H6,unpinned I.ok I6,q6⟩
 |brk =>obtain⟨σ6,H6,I6,q6⟩:=r;exact⟨σ6,H6,unpinned I.ok I6,q6⟩
 |cont =>obtain⟨σ6,H6,I6,q6⟩:=r;exact⟨σ6,H6,unpinned I.ok I6,q6⟩
 |ret u =>obtain⟨v,σ6,H6,I6,rv,q6⟩:=r;exact⟨v,σ6,H6,unpinned I.ok I6,rv,q6⟩
end
end L2.XN
namespace L2.XN
open PySem PySem.Spec PyProof.Rows L2 XE
end L2.XN
namespace L2.XN
open PySem PySem.Spec PyProof.Rows L2 XE
end L2.XN
namespace IR
open PySem PySem.Spec PyProof.Rows L2 L2.XN
section
variable{K:W.Frag}{mg:Str->Option Value}{P:Nat->Option FD}{F:List (Str×Nat)}{G:List (Str×PV)}{B:List Str}{p:Program}{w:World}{base:Heap}{k:Nat}
variable(hG:∀x v,G.lookup x=some v->∃u w,mg x=some u/\RelV w u/\∀Hi n H,Rp K Hi n v H w)(hB:∀x,B.contains x=true->mg x=none)
include hG hB
end
end IR
namespace Law
open PySem PySem.Spec PyProof.Rows L2 IR
def F:List (Str×Nat):=("is_side",0)::("is_line",1)::("is_board",2)::("cells_of",3)::("columns_in",109)::("bits_of",46)::[("with_line",47),("row_of",48),("number_at",58),("falling",85),("ways",86),("signed",92),("hits_at",98),("hits_of",99),("takes_column",110),("holders_of",111),("others",112),("reached",113),("most_of",114),("has_all_of",141),("crossing_rows",142),("steps_of",143),("factors_of",144),("read_board",32),("line_of",215),("words_of_most",216),("words_of_factors",217),("report",218),("_law_draws",219),("_law_next",220),("_law_order",221),("_law_stair",222),("_law_board",223),("_law_refused",224),("_law_spoilt",225),("law",226)]
def G:List (Str×PV):=[("CELL",(.str "x")),("HOLE",(.str ".")),("GREATEST_SIDE",(.int 8))]
def B:List Str:=["len","int","list","tuple","all","min","max","isinstance","str","range","enumerate","sorted","sum","dict","ValueError"]
abbrev N0:List Str:=["number"]
abbrev N1:List Str:=["thing"]
abbrev N2:List Str:=["thing"]
abbrev N3:List Str:=["board","cells","row","line","column","sign"]
abbrev N109:List Str:=["line"]
abbrev N46:List Str:=["line","bits","bit","sign"]
abbrev N47:List Str:=["levels","bits","after","size","level","above","taken","count","bit"]
abbrev N48:List Str:=["board","levels","line"]
abbrev N58:List Str:=["numbers","place"]
abbrev N85:List Str:=["number","factors","product","less"]
abbrev N86:List Str:=["things","taken"]
abbrev N92:List Str:=["number","turns"]
abbrev N98:List Str:=["row","lesser","greater","hit","number","size","full"]
abbrev N99:List Str:=["board","lesser","greater","row"]
abbrev N110:List Str:=["choices","holders","row","tried","column"]
abbrev N111:List Str:=["choices","holders","row"]
abbrev N112:List Str:=["size","numbers"]
abbrev N113:List Str:=["choices","holders","rows","columns","place","row","column"]
abbrev N114:List Str:=["board","choices","holders","placing","reach"]
abbrev N141:List Str:=["line","other"]
abbrev N142:List Str:=["board","row","line","below","other"]
abbrev Kk:List Str:=["board","rows"]
abbrev Kj:List Str:=["board","steps","noughts"]
abbrev pC:List Str:=["text","board"]
abbrev N215:List Str:=["words"]
abbrev N216:List Str:=["board","told"]
abbrev Hy:List Str:=["board","refusal"]
abbrev Ki:List Str:=["text","board","lines"]
abbrev N219:List Str:=["_law_script","_law_cells","_law_by_digits","_law_left","_law_found","_law_k","_law_at","_law_number"]
abbrev N220:List Str:=["_law_drawn"]
abbrev N221:List Str:=["_law_drawn","_law_many","_law_found","_law_k"]
abbrev Hw:List Str:=["_law_drawn","_law_rows","_law_columns","_law_order_here","_law_lines","_law_k","_law_some"]
abbrev N223:List Str:=["_law_drawn","_law_rows","_law_columns","_law_thick","_law_lines","_law_k"]
abbrev N224:List Str:=["_law_thing","_law_kept","error"]
abbrev xo:List Str:=["_law_board_here","_law_drawn","_law_way","_law_at","_law_place","_law_lines","_law_strange"]
abbrev Hv:List Str:=["_law_script","_law_drawn","_law_board_here","_law_k","_law_thing","_law_found","_law_cells"]
def d0:FD:=⟨1,1,(.cons (.ret [] (.chn .LtE .LtE (.con (.int 1)) (.var 0) (.con (.int 8)))) .nil)⟩
def d1:FD:=⟨1,1,(.cons (.ife (.or (.not (.val (.bf (.isin "str") (.cons (.var 0) .nil)))) (.not (.val (.call 0 (.cons (.bf .len (.cons (.var 0) .nil)) .nil))))) (.cons (.ret [] (.con (.bl false))) .nil) .nil) (.cons (.ret [] (.bf .all (.cons (.lc (.cmp .In (.var 0) (.tup (.cons (.con (.str "x")) (.cons (.con (.str ".")) .nil)))) (.seq (.var 0)) .no []) .nil))) .nil))⟩
def d2:FD:=⟨1,1,(.cons (.ife (.or (.not (.val (.bf (.isin "tuple") (.cons (.var 0) .nil)))) (.not (.val (.call 0 (.cons (.bf .len (.cons (.var 0) .nil)) .nil))))) (.cons (.ret [] (.con (.bl false))) .nil) .nil) (.cons (.ife (.not (.val (.bf .all (.cons (.lc (.call 1 (.cons (.var 0) .nil)) (.seq (.var 0)) .no []) .nil)))) (.cons (.ret [] (.con (.bl false))) .nil) .nil) (.cons (.ret [] (.bf .all (.cons (.lc (.cmp .Eq (.bf .len (.cons (.var 0) .nil)) (.bf .len (.cons (.ix (.var 1) (.con (.int 0))) .nil))) (.seq (.var 0)) .no [0]) .nil))) .nil)))⟩
def d3:FD:=⟨6,1,(.cons (.asg 1 true [] (.lst .nil)) (.cons (.forr [2,3] false [0] (.enum (.var 0)) (.cons (.forr [4,5] false [3] (.enum (.var 3)) (.cons (.ife (.val (.cmp .Eq (.var 5) (.con (.str "x")))) (.cons (.app 1 [2,4] (.tup (.cons (.var 2) (.cons (.var 4) .nil)))) .nil) .nil) .nil)) .nil)) (.cons (.ret [1] (.var 1)) .nil)))⟩
def KF:FD:=⟨1,1,(.cons (.ret [] (.lc2 (.var 0) (.enum (.var 0)) (.yes (.val (.cmp .Eq (.var 1) (.con (.str "x"))))) [])) .nil)⟩
def d46:FD:=⟨4,1,(.cons (.asg 1 true [] (.lst .nil)) (.cons (.asg 2 false [] (.con (.int 1))) (.cons (.forr [3] true [0] (.seq (.var 0)) (.cons (.ife (.val (.cmp .Eq (.var 3) (.con (.str "x")))) (.cons (.app 1 [2] (.var 2)) .nil) .nil) (.cons (.asg 2 false [] (.bin .Mult (.var 2) (.con (.int 2)))) .nil))) (.cons (.ret [1] (.var 1)) .nil))))⟩
def II:FD:=⟨9,2,(.cons (.hand 2 bj) .nil)⟩
def d48:FD:=⟨3,1,(.cons (.asg 1 false [] (.lst (.cons (.dlit (.inl 0) (.con (.int 1))) .nil))) (.cons (.forr [2] true [0] (.seq (.var 0)) (.cons (.asg 1 false [] (.call 47 (.cons (.var 1) (.cons (.call 46 (.cons (.var 2) .nil)) .nil)))) .nil)) (.cons (.ret [1] (.lc (.bf .sumv (.cons (.var 0) .nil)) (.seq (.var 1)) (.yes (.val (.cmp .Gt (.bf .len (.cons (.var 0) .nil)) (.con (.int 0))))) [])) .nil)))⟩
def d58:FD:=⟨2,2,(.cons (.ret [] (.ite (.val (.cmp .Lt (.var 1) (.bf .len (.cons (.var 0) .nil)))) (.ix (.var 0) (.var 1)) (.con (.int 0)))) .nil)⟩
def d85:FD:=⟨4,2,(.cons (.asg 2 false [] (.con (.int 1))) (.cons (.forr [3] true [] (.rng (.cons (.var 1) .nil)) (.cons (.asg 2 false [] (.bin .Mult (.var 2) (.bin .Sub (.var 0) (.var 3)))) .nil)) (.cons (.ret [2] (.var 2)) .nil)))⟩
def d86:FD:=⟨2,2,(.cons (.ife (.not (.val (.chn .LtE .LtE (.con (.int 0)) (.var 1) (.var 0)))) (.cons (.ret [] (.con (.int 0))) .nil) .nil) (.cons (.ret [] (.bin .FloorDiv (.call 85 (.cons (.var 0) (.cons (.var 1) .nil))) (.call 85 (.cons (.var 1) (.cons (.var 1) .nil))))) .nil))⟩
def d92:FD:=⟨2,2,(.cons (.ret [0] (.ite (.val (.cmp .Eq (.bin .Mod (.var 1) (.con (.int 2))) (.con (.int 0)))) (.var 0) (.neg (.var 0)))) .nil)⟩
def d98:FD:=⟨7,4,(.cons (.asg 4 false [] (.con (.int 0))) (.cons (.forr [5] true [] (.rng (.cons (.var 3) (.cons (.bin .Add (.var 1) (.con (.int 1))) .nil))) (.cons (.asg 6 false [] (.bin .Mult (.call 58 (.cons (.var 0) (.cons (.var 5) .nil))) (.call 85 (.cons (.bin .Sub (.var 2) (.var 5)) (.cons (.bin .Sub (.var 1) (.var 5)) .nil))))) (.cons (.aug 4 .Add (.call 92 (.cons (.bin .Mult (.call 86 (.cons (.var 5) (.cons (.var 3) .nil))) (.var 6)) (.cons (.bin .Sub (.var 5) (.var 3)) .nil)))) .nil))) (.cons (.ret [4] (.var 4)) .nil)))⟩
def d99:FD:=⟨4,1,(.cons (.asg 1 false [] (.bf .min (.cons (.bf .len (.cons (.var 0) .nil)) (.cons (.bf .len (.cons (.ix (.var 0) (.con (.int 0))) .nil)) .nil)))) (.cons (.asg 2 false [] (.bf .max (.cons (.bf .len (.cons (.var 0) .nil)) (.cons (.bf .len (.cons (.ix (.var 0) (.con (.int 0))) .nil)) .nil)))) (.cons (.asg 3 false [] (.call 48 (.cons (.var 0) .nil))) (.cons (.ret [] (.lc (.call 98 (.cons (.var 3) (.cons (.var 2) (.cons (.var 1) (.cons (.var 0) .nil))))) (.rng (.cons (.bin .Add (.var 1) (.con (.int 1))) .nil)) .no [2,1,3])) .nil))))⟩
def d110:FD:=⟨5,4,(.cons .never .nil)⟩
def Do:FD:=⟨3,1,(.cons (.drop (.call 20011 (.cons (.con .non) .nil))) (.cons (.hand 1 rA) .nil))⟩
def KD:FD:=⟨2,2,(.cons (.ret [] (.lc (.var 0) (.rng (.cons (.var 0) .nil)) (.yes (.val (.cmp .NotIn (.var 0) (.var 1)))) [1])) .nil)⟩
def KC:FD:=⟨7,2,(.cons (.asg 2 true [] (.call 112 (.cons (.bf .len (.cons (.var 0) .nil)) (.cons (.bf .lvals (.cons (.var 1) .nil)) .nil)))) (.cons (.asg 3 true [] (.lst .nil)) (.cons (.asg 4 false [] (.con (.int 0))) (.cons (.whil (.val (.cmp .Lt (.var 4) (.bf .len (.cons (.var 2) .nil)))) (.cons (.asg 5 false [] (.ix (.var 2) (.var 4))) (.cons (.forr [6] true [] (.seq (.ix (.var 0) (.var 5))) (.cons (.ife (.val (.cmp .NotIn (.var 6) (.var 3))) (.cons (.app 3 [6] (.var 6)) (.cons (.app 2 [] (.ix (.var 1) (.var 6))) .nil)) .nil) .nil)) (.cons (.aug 4 .Add (.con (.int 1))) .nil)))) (.cons (.ret [2,3] (.tup (.cons (.var 2) (.cons (.var 3) .nil)))) .nil)))))⟩
def KB:FD:=⟨5,1,(.cons (.asg 1 false [] (.lc (.call 109 (.cons (.var 0) .nil)) (.seq (.var 0)) .no [])) (.cons (.asg 2 false [] (.call 111 (.cons (.var 1) .nil))) (.cons (.asg 3 false [] (.bf .tuple (.cons (.bf .sorted (.cons (.lcs (.var 2)) .nil)) .nil))) (.cons (.asg 4 false [] (.call 113 (.cons (.var 1) (.cons (.var 2) .nil)))) (.cons (.ret [3] (.tup (.cons (.var 3) (.cons (.call 112 (.cons (.bf .len (.cons (.var 0) .nil)) (.cons (.ix (.var 4) (.con (.int 0))) .nil))) (.cons (.bf .sorted (.cons (.ix (.var 4) (.con (.int 1))) .nil)) .nil))))) .nil)))))⟩
def KA:FD:=⟨2,2,(.cons (.ret [] (.bf .all (.cons (.lc (.cmp .Eq (.ix (.var 1) (.var 0)) (.con (.str "x"))) (.seq (.call 109 (.cons (.var 1) .nil))) .no [0]) .nil))) .nil)⟩
def HK:FD:=⟨5,1,(.cons (.forr [1,2] false [0] (.enum (.var 0)) (.cons (.forr [3] true [] (.rng (.cons (.bin .Add (.var 1) (.con (.int 1))) (.cons (.bf .len (.cons (.var 0) .nil)) .nil))) (.cons (.asg 4 false [] (.ix (.var 0) (.var 3))) (.cons (.ife (.and (.not (.val (.call 141 (.cons (.var 2) (.cons (.var 4) .nil))))) (.not (.val (.call 141 (.cons (.var 4) (.cons (.var 2) .nil)))))) (.cons (.ret [1,3] (.tup (.cons (.var 1) (.cons (.var 3) .nil)))) .nil) .nil) .nil))) .nil)) (.cons (.ret [] (.con .non)) .nil))⟩
def J9:FD:=⟨2,1,(.cons (.asg 1 false [] (.call 142 (.cons (.var 0) .nil))) (.cons (.ife (.val (.cmp .IsNot (.var 1) (.con .non))) (.cons .never .nil) .nil) (.cons (.ret [0] (.bf .sorted (.cons (.lc (.mth .count (.var 0) (.cons (.con (.str "x")) .nil)) (.seq (.var 0)) .no []) .nil))) .nil)))⟩
def J4:FD:=⟨3,1,(.cons (.asg 1 false [] (.call 143 (.cons (.var 0) .nil))) (.cons (.asg 2 false [] (.bin .Mult (.lst (.cons (.con (.int 0)) .nil)) (.bin .Sub (.con (.int 8)) (.bf .len (.cons (.var 1) .nil))))) (.cons (.ret [] (.bf .sorted (.cons (.lc2 (.bin .Sub (.var 1) (.var 0)) (.enum (.bin .Add (.var 2) (.var 1))) .no []) .nil))) .nil)))⟩
def Dn:FD:=⟨2,1,(.cons (.drop (.call 20004 (.cons (.con .non) .nil))) (.cons (.hand 1 qF) .nil))⟩
def J0:FD:=⟨1,1,(.cons (.ret [] (.mth .join (.con (.str " ")) (.cons (.lc (.bf .str (.cons (.var 0) .nil)) (.seq (.var 0)) .no []) .nil))) .nil)⟩
def Jz:FD:=⟨2,1,(.cons (.asg 1 false [] (.call 114 (.cons (.var 0) .nil))) (.cons (.ret [] (.bin .Add (.bin .Add (.bin .Add (.lst (.cons (.con (.str "most")) (.cons (.bf .len (.cons (.ix (.var 1) (.con (.int 0))) .nil)) (.cons (.con (.str "rows")) .nil)))) (.ix (.var 1) (.con (.int 1)))) (.lst (.cons (.con (.str "columns")) .nil))) (.ix (.var 1) (.con (.int 2))))) .nil))⟩
def HJ:FD:=⟨2,1,(.cons (.drop (.call 20020 (.cons (.con .non) .nil))) (.cons (.drop (.call 20102 (.cons (.var 0) .nil))) (.cons (.asg 1 false [] (.call 142 (.cons (.var 0) .nil))) (.cons (.ife (.val (.cmp .IsNot (.var 1) (.con .non))) (.cons (.ret [] (.bin .Add (.lst (.cons (.con (.str "none")) .nil)) (.bf .list (.cons (.var 1) .nil)))) .nil) .nil) (.cons (.ret [] (.bin .Add (.lst (.cons (.con (.str "factors")) .nil)) (.call 144 (.cons (.var 0) .nil)))) .nil)))))⟩
def Jy:FD:=⟨3,1,(.cons (.asg 1 false [] (.call 32 (.cons (.var 0) .nil))) (.cons (.asg 2 false [] (.lst (.cons (.lst (.cons (.con (.str "cells")) (.cons (.bf .len (.cons (.call 3 (.cons (.var 1) .nil)) .nil)) .nil))) (.cons (.bin .Add (.lst (.cons (.con (.str "row")) .nil)) (.call 48 (.cons (.var 1) .nil))) (.cons (.bin .Add (.lst (.cons (.con (.str "hits")) .nil)) (.call 99 (.cons (.var 1) .nil))) (.cons (.call 216 (.cons (.var 1) .nil)) (.cons (.call 217 (.cons (.var 1) .nil)) .nil))))))) (.cons (.ret [] (.mth .join (.con (.str "\n")) (.cons (.lc (.call 215 (.cons (.var 0) .nil)) (.seq (.var 2)) .no []) .nil))) .nil)))⟩
def Jx:FD:=⟨8,1,(.cons (.asg 1 true [] (.sl (.bin .Add (.bf .list (.cons (.sl (.var 0) .no (.yes (.con (.int 63)))) .nil)) (.lst (.cons (.con (.int 0)) .nil))) .no (.yes (.bf .max (.cons (.con (.int 1)) (.cons (.bf .min (.cons (.bf .len (.cons (.var 0) .nil)) (.cons (.con (.int 63)) .nil))) .nil)))))) (.cons (.asg 2 false [] (.cmp .Eq (.bin .Mod (.ix (.var 1) (.con (.int 0))) (.con (.int 2))) (.con (.int 1)))) (.cons (.seti 1 [] (.con (.int 0)) (.bin .FloorDiv (.ix (.var 1) (.con (.int 0))) (.con (.int 2)))) (.cons (.asg 3 true [] (.bf .list (.cons (.var 1) .nil))) (.cons (.asg 4 true [] (.lst .nil)) (.cons (.forr [5] true [] (.rng (.cons (.con (.int 200)) .nil)) (.cons (.asg 6 false [] (.bin .Mod (.var 5) (.bf .len (.cons (.var 1) .nil)))) (.cons (.asg 7 false [] (.bin .Mod (.ix (.var 3) (.var 6)) (.con (.int 2147483629)))) (.cons (.ife (.and (.val (.var 2)) (.val (.cmp .NotIn (.ix (.var 3) (.var 6)) (.lst (.cons (.con (.int 0)) (.cons (.neg (.con (.int 1))) .nil)))))) (.cons (.seti 3 [] (.var 6) (.bin .FloorDiv (.ix (.var 3) (.var 6)) (.con (.int 2147483629)))) .nil) (.cons (.asg 7 false [] (.bin .Mod (.bin .Add (.bin .Add (.bin .Mult (.bin .Mod (.ix (.var 1) (.var 6)) (.con (.int 2147483629))) (.con (.int 48271))) (.bin .Mult (.bin .Mult (.con (.int 7919)) (.var 5)) (.var 5))) (.con (.int 104729))) (.con (.int 2147483647)))) (.cons (.asg 7 false [] (.bin .Mod (.bin .Mult (.var 7) (.var 7)) (.con (.int 2147483629)))) (.cons (.asg 7 false [] (.bin .Mod (.bin .Mult (.bin .Mod (.bin .Add (.bin .Mult (.var 7) (.con (.int 69621))) (.bin .Mult (.con (.int 3571)) (.var 5))) (.con (.int 2147483563))) (.var 7)) (.con (.int 2147483629)))) .nil)))) (.cons (.app 4 [7] (.var 7)) .nil))))) (.cons (.ret [] (.rev (.var 4))) .nil)))))))⟩
def d220:FD:=⟨1,1,(.cons .never .nil)⟩
def d221:FD:=⟨4,2,(.cons .never .nil)⟩
def d222:FD:=⟨7,3,(.cons .never .nil)⟩
def d223:FD:=⟨6,1,(.cons .never .nil)⟩
def d224:FD:=⟨3,1,(.cons (.drop (.call 20020 (.cons (.con .non) .nil))) (.cons (.hand 1 u8) .nil))⟩
def jA:FD:=⟨7,2,(.cons (.asg 2 false [] (.bin .Mod (.call 220 (.cons (.var 1) .nil)) (.con (.int 9)))) (.cons (.asg 3 false [] (.bin .Mod (.call 220 (.cons (.var 1) .nil)) (.bf .len (.cons (.var 0) .nil)))) (.cons (.asg 4 false [] (.bin .Mod (.call 220 (.cons (.var 1) .nil)) (.bf .len (.cons (.ix (.var 0) (.con (.int 0))) .nil)))) (.cons (.asg 5 true [] (.bf .list (.cons (.var 0) .nil))) (.cons (.asg 6 false [] (.ix (.lst (.cons (.con (.str "X")) (.cons (.con (.str "o")) (.cons (.con (.str " ")) (.cons (.con (.str "0")) (.cons (.con (.str ",")) (.cons (.con (.str "-")) (.cons (.con (.str "_")) (.cons (.con (.str "xx")) .nil))))))))) (.bin .Mod (.call 220 (.cons (.var 1) .nil)) (.con (.int 8))))) (.cons (.ife (.val (.cmp .Eq (.var 2) (.con (.int 0)))) (.cons (.seti 5 [] (.var 3) (.bin .Add (.bin .Add (.sl (.ix (.var 5) (.var 3)) .no (.yes (.var 4))) (.var 6)) (.sl (.ix (.var 5) (.var 3)) (.yes (.bin .Add (.var 4) (.con (.int 1)))) .no))) (.cons (.ife (.and (.val (.cmp .Eq (.var 6) (.con (.str "xx")))) (.and (.val (.cmp .Eq (.bf .len (.cons (.var 5) .nil)) (.con (.int 1)))) (.val (.cmp .Lt (.bf .len (.cons (.ix (.var 5) (.con (.int 0))) .nil)) (.con (.int 9)))))) (.cons (.asg 5 true [5] (.bin .Add (.var 5) (.lst (.cons (.con (.str "")) .nil)))) .nil) .nil) .nil)) .nil) (.cons (.ife (.val (.cmp .Eq (.var 2) (.con (.int 1)))) (.cons (.seti 5 [] (.var 3) (.bin .Add (.ix (.var 5) (.var 3)) (.ix (.lst (.cons (.con (.str " ")) (.cons (.con (.str "x")) (.cons (.con (.str ".")) .nil)))) (.bin .Mod (.var 4) (.con (.int 3)))))) .nil) .nil) (.cons (.ife (.val (.cmp .Eq (.var 2) (.con (.int 2)))) (.cons (.seti 5 [] (.var 3) (.sl (.ix (.var 5) (.var 3)) (.yes (.con (.int 1))) .no)) .nil) .nil) (.cons (.ife (.and (.val (.cmp .Eq (.var 2) (.con (.int 1)))) (.val (.cmp .Eq (.bf .len (.cons (.var 5) .nil)) (.con (.int 1))))) (.cons (.asg 5 true [5] (.bin .Add (.var 5) (.lst (.cons (.bin .Mult (.con (.str "x")) (.bin .Sub (.bf .len (.cons (.ix (.var 5) (.con (.int 0))) .nil)) (.con (.int 1)))) .nil)))) .nil) .nil) (.cons (.ife (.and (.val (.cmp .Eq (.var 2) (.con (.int 2)))) (.val (.cmp .Eq (.bf .len (.cons (.var 5) .nil)) (.con (.int 1))))) (.cons (.asg 5 true [5] (.bin .Add (.var 5) (.lst (.cons (.bin .Add (.ix (.var 5) (.con (.int 0))) (.con (.str "x"))) .nil)))) .nil) .nil) (.cons (.ife (.val (.cmp .Eq (.var 2) (.con (.int 3)))) (.cons (.asg 5 true [] (.sl (.bin .Mult (.var 5) (.con (.int 9))) .no (.yes (.con (.int 9))))) .nil) .nil) (.cons (.ife (.val (.cmp .Eq (.var 2) (.con (.int 4)))) (.cons (.asg 5 true [] (.lc (.sl (.bin .Mult (.var 0) (.con (.int 9))) .no (.yes (.con (.int 9)))) (.seq (.var 5)) .no [])) .nil) .nil) (.cons (.ife (.val (.cmp .Eq (.var 2) (.con (.int 5)))) (.cons (.ins 5 (.var 3) (.con (.str ""))) .nil) .nil) (.cons (.ife (.val (.cmp .Eq (.var 2) (.con (.int 6)))) (.cons (.asg 5 true [5] (.bin .Add (.var 5) (.lst (.cons (.con (.str "")) .nil)))) .nil) .nil) (.cons (.ife (.val (.cmp .Eq (.var 2) (.con (.int 7)))) (.cons (.asg 5 true [] (.bin .Add (.lst (.cons (.con (.str "")) .nil)) (.var 5))) .nil) .nil) (.cons (.ife (.val (.cmp .Eq (.var 2) (.con (.int 8)))) (.cons (.seti 5 [] (.var 3) (.bin .Add (.con (.str " ")) (.sl (.ix (.var 5) (.var 3)) (.yes (.con (.int 1))) .no))) .nil) .nil) (.cons (.ret [] (.mth .join (.con (.str "\n")) (.cons (.var 5) .nil))) .nil)))))))))))))))))⟩
def d226:FD:=⟨7,1,(.cons .never .nil)⟩
def P:Nat->Option FD:=λn=>match n with
 |0=>some d0|1=>some d1|2=>some d2|3=>some d3|32=>some Dn|46=>some d46|47=>some II|48=>some d48|58=>some d58|85=>some d85|86=>some d86|92=>some d92|98=>some d98|99=>some d99|109=>some KF|110=>some d110|111=>some Do|112=>some KD|113=>some KC|114=>some KB|141=>some KA|142=>some HK|143=>some J9|144=>some J4|215=>some J0|216=>some Jz|217=>some HJ|218=>some Jy|219=>some Jx|220=>some d220|221=>some d221|222=>some d222|223=>some d223|224=>some d224|225=>some jA|226=>some d226|20000=>some ⟨1,1,.cons (.ret [] (.con .non)) .nil⟩|20001=>some ⟨1,1,.cons (.ret [] (.call 20000 (.cons (.con .non) .nil))) .nil⟩|20002=>some ⟨1,1,.cons (.ret [] (.call 20001 (.cons (.con .non) .nil))) .nil⟩|20003=>some ⟨1,1,.cons (.ret [] (.call 20002 (.cons (.con .non) .nil))) .nil⟩|20004=>some ⟨1,1,.cons (.ret [] (.call 20003 (.cons (.con .non) .nil))) .nil⟩|20005=>some ⟨1,1,.cons (.ret [] (.call 20004 (.cons (.con .non) .nil))) .nil⟩|20006=>some ⟨1,1,.cons (.ret [] (.call 20005 (.cons (.con .non) .nil))) .nil⟩|20007=>some ⟨1,1,.cons (.ret [] (.call 20006 (.cons (.con .non) .nil))) .nil⟩|20008=>some ⟨1,1,.cons (.ret [] (.call 20007 (.cons (.con .non) .nil))) .nil⟩|20009=>some ⟨1,1,.cons (.ret [] (.call 20008 (.cons (.con .non) .nil))) .nil⟩|20010=>some ⟨1,1,.cons (.ret [] (.call 20009 (.cons (.con .non) .nil))) .nil⟩|20011=>some ⟨1,1,.cons (.ret [] (.call 20010 (.cons (.con .non) .nil))) .nil⟩|20012=>some ⟨1,1,.cons (.ret [] (.call 20011 (.cons (.con .non) .nil))) .nil⟩|20013=>some ⟨1,1,.cons (.ret [] (.call 20012 (.cons (.con .non) .nil))) .nil⟩|20014=>some ⟨1,1,.cons (.ret [] (.call 20013 (.cons (.con .non) .nil))) .nil⟩|20015=>some ⟨1,1,.cons (.ret [] (.call 20014 (.cons (.con .non) .nil))) .nil⟩|20016=>some ⟨1,1,.cons (.ret [] (.call 20015 (.cons (.con .non) .nil))) .nil⟩|20017=>some ⟨1,1,.cons (.ret [] (.call 20016 (.cons (.con .non) .nil))) .nil⟩|20018=>some ⟨1,1,.cons (.ret [] (.call 20017 (.cons (.con .non) .nil))) .nil⟩|20019=>some ⟨1,1,.cons (.ret [] (.call 20018 (.cons (.con .non) .nil))) .nil⟩|20020=>some ⟨1,1,.cons (.ret [] (.call 20019 (.cons (.con .non) .nil))) .nil⟩|20102=>some ⟨1,1,.cons (.hand 1 rg) .nil⟩|_=>none
end Law
namespace Law
open PySem IR L2
local macro_rules | `(tactic| walk_at "ev") => do
  let ids <- ("sc Option.bind_some Option.map_some Option.bind_none List.length_cons List.length_nil if_true if_false Nat.reduceAdd Nat.reduceSub List.map_cons List.map_nil List.replicate List.append_nil List.cons_append List.nil_append imm imms bE Ai t9 t8 jU HA G9 vd BA GS D5 List.getD_cons_zero List.getD_cons_succ KZ at_1 Bp cQ cV cS cY cz dA cv cR dB cP cZ cW cw cy cu cI cX cq ck ci pU pV z0w z0x xz x4 x5 x3 Eu Et Ep Er Es bT Bi Bh AO AN DG C9 C8 Dj Gv Gx Gw AC AM gZ rD mv De va Ab D2 Dx Dy D1 Dz HP HQ HR Dr Dq List.set_cons_zero List.set_cons_succ JP Fu Fv fe Br yM AS B4 B6 B3 B5 B7 Ha D7 BE xa xZ xY Gi Gg kY pz Hb HY HZ BC HX BD w9 setU ix_L ix_T ix_O ix_B ix_S nU dq E7 E5 E8 E9 E6 mC mB eq_self decide_true decide_false qt tu qv qr qu qp tq l5 oQ l7 lz l6 ly oP reduceCtorEq bne_self_eq_false beq_self_eq_true Bool.true_bne Bool.bne_true Bool.false_bne Bool.bne_false LN Nat.reduceLeDiff Nat.reduceLT Nat.reducePow Int.reduceLT Int.reduceLE Int.reducePow Int.reduceNeg Int.natAbs_one and_self true_and and_true or_true true_or reduceIte Bool.not_true Bool.not_false Bool.and_true Bool.or_true Bool.or_false Bool.true_or Bool.false_or Bool.true_and Bool.and_false Bool.false_and Bool.false_eq_true keeps fB w5 List.getElem?_cons_zero List.getElem?_cons_succ".splitOn " ").toArray.mapM fun s => do
   let i := Lean.mkIdent s.toName
   `(Lean.Parser.Tactic.simpLemma| $i:ident)
  `(tactic| (try simp -implicitDefEqProofs only [$ids,*]))
local macro_rules | `(tactic| walk_at "go") => `(tactic| (walk_at "ev"; repeat (rw [K5 (by first | omega | assumption | decide)]; walk_at "ev")))
set_option tactic.hygienic false
theorem c0(k:Nat)(n:Int):aC P (k+1) 0 [.int n]=some (.bl (d9 n)):=by refine run rfl rfl ?_;simp only[d0,entry];walk_at "ev";unfold d9;cases decide (1<=n)<;>rfl
def mP(c:Nat):Bool:=decide (c=120)||decide (c=46)
def fP:PV->Bool
 | .str z=>d9 z.length&&z.cps.toList.all mP|_=>false
def kn:PV->Bool
 | .str z=>decide (z.length<=LN)| .dT _ _=>false|_=>true
theorem eq_x(c:Nat):decide (("x":Str)=⟨#[c]⟩)=decide (c=120):=by have:=oF 120 c;rw[show(⟨#[120]⟩:Str)="x" from rfl]at this;rw[this,Nc];exact⟨Eq.symm,Eq.symm⟩
theorem HC(c:Nat):decide ((".":Str)=⟨#[c]⟩)=decide (c=46):=by have:=oF 46 c;rw[show(⟨#[46]⟩:Str)="." from rfl]at this;rw[this,Nc];exact⟨Eq.symm,Eq.symm⟩
theorem eK{a:Type}(f:a->Bool):∀l:List a,jG (l.map λx=>PV.bl (f x))=some (l.map f)
 |[]=>rfl|x::l=>by rw[K8,jG,eK f l];rfl
theorem c1(k:Nat)(v:PV)(h:kn v=true):aC P (k+2) 1 [v]=some (.bl (fP v)):=by
 refine run rfl rfl ?_;cases v with
 |str z =>
  have b:=LJ h;simp only[d1,entry];walk_at "ev";simp only[len_str,b,M0];walk_at "ev";rw[c0];walk_at "ev";cases a:d9 z.length with
  |false =>walk_at "ev";simp[fP,a]
  |true =>
   walk_at "ev";have d:(signs z).length<=LN:=by rw[bn];exact b
   simp only[d,M0];rw[show signs z=z.cps.toList.map λc=>PV.str ⟨#[c]⟩from rfl,hX (λc hc=> ?h)]
   case h =>
    walk_at "go";have e:bU .In (.str ⟨#[c]⟩) (.tup [.str "x",.str "."])=some (mP c):=by show some (Ak (.str "x") (.str ⟨#[c]⟩)||(Ak (.str ".") (.str ⟨#[c]⟩)||false))=_;rw[Bool.or_false];show some (decide (("x":Str)=⟨#[c]⟩)||decide ((".":Str)=⟨#[c]⟩))=_;rw[eq_x,HC];rfl
    rw[e];rfl
   walk_at "ev";rw[eK];walk_at "ev";simp[fP,a]
 |dT i f=>cases h|_ =>simp only[d1,entry];walk_at "ev";rfl
def lY:PV->Bool
 | .tup a=>d9 a.length&&(a.all fP&&a.all λx=>decide ((cJ x).getD 0=(cJ (a.getD 0 .non)).getD 0))|_=>false
theorem xC(h:fP x=true):∃z,x=.str z/\1<=z.length/\z.length<=8:=by
 cases x with
 |str z =>have h:(d9 z.length&&_)=true:=h;rw[Kt]at h;unfold d9 at h;rw[Kt]at h;exact⟨z,rfl,by omega,by omega⟩
 |_=>cases h
set_option tactic.hygienic true in
theorem c2(k:Nat)(v:PV)(h:kn v=true)(hk:∀xs,v=.tup xs->∀x∈xs,kn x=true):aC P (k+3) 2 [v]=some (.bl (lY v)):=by
 refine run rfl rfl ?_;cases v with
 | tup xs =>
  have hk:=hk xs rfl;simp only[d2,entry];walk_at "ev";rw[c0];walk_at "ev";cases hs:d9 xs.length with
  | false =>
   walk_at "ev";simp[lY,hs]
  | true =>
   walk_at "ev";have hs' :=hs;unfold d9 at hs';rw[Kt]at hs';have b1:=LJ hs'.1;have b2:=LJ hs'.2;have hz:xs.length<=LN:=by show xs.length<=16777216;omega
   simp only[hz,M0];rw[bC (n:=true) (g:=fun x=>PV.bl (fP x)) (fun x hx=>by walk_at "ev";rw[c1 _ _ (hk x hx)];rfl)];walk_at "ev";rw[eK];walk_at "ev";rw[NH];cases ha:xs.all (id∘fP)with
   | false =>
    walk_at "ev";have ha:xs.all fP=false:=ha;simp[lY,ha]
   | true =>
    walk_at "ev";have ha:xs.all fP=true:=ha;have hl:∀x∈xs,∃z,x=.str z/\1<=z.length/\z.length<=8:=fun x hx=>xC (LL.mp ha x hx);obtain⟨x0,hx0⟩:∃x,xs[0]? =some x:=⟨xs[0]'(by omega),by simp⟩;obtain⟨z0,rfl,z1,z2⟩:=hl x0 (K9 hx0);have e0:dH xs 0=some (.str z0):=bh (j:=0) hx0;have zL:z0.length<=LN:=by show z0.length<=16777216;omega
    simp only[hz,M0];rw[bC (n:=true) (g:=fun x=>PV.bl (decide ((cJ x).getD 0=(cJ (xs.getD 0 .non)).getD 0))) (fun x hx=> ?h)]
    case h =>
     obtain⟨z,rfl,y1,y2⟩:=hl x hx;have yL:z.length<=LN:=by show z.length<=16777216;omega
     have g0:xs.getD 0 .non=.str z0:=by rw[Kz,hx0];rfl
     try simp only[List.getD_cons_zero]
     walk_at "ev";simp only[len_str,yL,e0,M0];walk_at "ev";simp only[len_str,zL,M0];walk_at "ev";rw[g0];simp only[len_str,zL,M0,Mj];have e:decide ((z.length:Int)=(z0.length:Int))=decide (z.length=z0.length):=by
      rw[Nc];omega
     rw[e]
    walk_at "ev";rw[eK];walk_at "ev";simp[lY,hs,ha]
 | dT ks vs=>cases h
 | _ =>
  simp only[d2,entry];walk_at "ev";rfl
def A5(i j:Nat):PV:=.tup [.int (i:Nat),.int (j:Nat)]
def kc(a:List Str)(i j:Nat):List PV:=((List.range j).filter λc=>cd a i c==120).map λc=>A5 i c
def b9(a:List Str)(w i:Nat):List PV:=(List.range i).flatMap λr=>kc a r w
theorem wj(a:List Str)(i j:Nat):kc a i (j+1)=kc a i j++(if cd a i j==120 then[A5 i j]else[]):=by unfold kc;rw[List.range_succ,List.filter_append,LI];cases h:cd a i j==120<;>simp[h]
theorem jg(a:List Str)(w i:Nat):b9 a w (i+1)=b9 a w i++kc a i w:=by unfold b9;rw[List.range_succ,List.flatMap_append];simp
theorem qC(a:List Str)(i j:Nat):(kc a i j).length<=j:=by unfold kc;rw[Kr];exact LM (ME _ _) (by rw[LX];exact Ky _)
theorem lh(a:List Str)(w:Nat):∀i,(b9 a w i).length<=i*w
 |0=>by simp[b9]|i+1=>by rw[jg,K7,NA];have:=lh a w i;have:=qC a i w;omega
theorem E1{a:List Str}{i:Nat}(h:a[i]? =some z):dH (a.map PV.str) (i:Int)=some (.str z):=bh (by rw[LA,h];rfl)
theorem bC{a:Type}{f:PV->Option (Option (PV×Bool))}{F:a->PV}{G:a->PV}{l:List a}(h:∀x∈l,f (F x)=some (some (G x,true))):bz f (l.map F)=some (l.map G,true):=by
 induction l with
 |nil=>rfl|cons x l b =>rw[K8,bz,h x K6,b λy hy=>h y (Kx _ hy)];rfl
theorem pe(a:List Nat):bg (a.map λc=>PV.str ⟨#[c]⟩)=some (a.map λc=>(⟨#[c]⟩:Str)):=by
 induction a with
 |nil=>rfl|cons c a b=>rw[K8,bg,b];rfl
theorem wO(a:List Nat):((a.map λc=>(⟨#[c]⟩:Str)).map (·.length)).sum=a.length:=by
 induction a with
 |nil=>rfl|cons c a b=>rw[K8,K8,NO,b,LK];show 1+_=_;omega
theorem tj{a:List Nat}{n m:Bool}(h:a.length<=1000):ib .join (.frz (.str (Str.ofString "")) n) [.own (a.map λc=>.str ⟨#[c]⟩) m]=some (sc (.str ⟨a.toArray⟩)):=by
 have e:ib .join (.frz (.str (Str.ofString "")) n) [.own (a.map λc=>.str ⟨#[c]⟩) m]=(bg (a.map λc=>PV.str ⟨#[c]⟩)).bind λys=>if(ys.map (·.length)).sum+ys.length*(Str.ofString "").length<=LN then some (sc (.str (bP (Str.ofString "") ys)))else none:=rfl
 rw[e,pe,K2,wO,K5 (by show a.length+_*0<=16777216;omega),<-ip];rw[show Str.join (Str.ofString "") (a.map λc=>(⟨#[c]⟩:Str))=Ez a from hJ a];rfl
theorem Fh{a:List Str}{i:Nat}(b:(a.map PV.str)[i]? =some x):∃z,a[i]? =some z/\z∈a/\x=.str z:=by
 rw[LA]at b;cases e:a[i]? with
 |none=>rw[e]at b;cases b|some z =>rw[e]at b;exact⟨z,rfl,K9 e,(LR b).symm⟩
theorem c3(k:Nat)(e:List Str)(w:Nat)(v:Wd e w)(N:e.length<=8)(E:w<=8):aC P (k+1) 3 [.tup (e.map .str)]=some (.lst (b9 e w e.length)):=by
 refine dP rfl rfl ?_;have r:=bH e;simp only[d3,entry];walk_at "go";rw[r];refine eG (xs:=List.zipWith dc (List.range (e.map PV.str).length) (e.map PV.str)) (n:=true) ?_ (λi h=>∃a b c d,h=[.frz (.tup (e.map .str)) true,.own (b9 e w i) true,a,b,c,d]) ⟨_,_,_,_,rfl⟩ ?_ ?_
 ·walk_at "ev"
  rfl
 ·rintro i y h q ⟨a,b,c,d,rfl⟩
  obtain⟨y,f,rfl⟩:=kN q;obtain⟨z,x,D,rfl⟩:=Fh f;refine⟨_,rfl,?_⟩;have C:=(Kw.mp x).1;have l:=v z D;walk_at "ev";have m:(signs z).length=w:=by rw[bn];exact l
  refine eG (xs:=List.zipWith dc (List.range (signs z).length) (signs z)) (n:=true) ?_ (λj h=>∃c d,h=[.frz (.tup (e.map .str)) true,.own (b9 e w i++kc e i j) true,.frz (.int i) true,.frz (.str z) true,c,d]) ⟨c,d,by simp[kc,rD,mv,Ab,va]⟩ ?_ ?_
  ·walk_at "ev"
   simp only[jq,Lj];rw[m,l]
  ·rintro j y h q ⟨c,d,rfl⟩
   obtain⟨y,g,rfl⟩:=kN q;have H:j<w:=by have:=(Kw.mp g).1;omega
   obtain⟨I,u,A,M⟩:=KM v C H;rw[x]at u;cases u;have f:(signs z)[j]? =some (.str ⟨#[cd e i j]⟩):=by unfold signs;rw[LA,A];rfl
   rw[f]at g;cases g;refine⟨_,rfl,?_⟩;walk_at "ev";rw[om];have o:(b9 e w i++kc e i j).length<LN:=by rw[K7];have L:=lh e w i;have K:=qC e i j;have J:i*w<=8*8:=NT (by omega) E;omega
   have p:=wj e i j;cases s:cd e i j==120 with
   |true =>rw[s]at p;walk_at "go";rw[eA rfl o];walk_at "ev";exact⟨.frz (.int j) true,.frz (.str ⟨#[cd e i j]⟩) true,by rw[p];simp[A5]⟩
   |false =>rw[s]at p;walk_at "ev";exact⟨.frz (.int j) true,.frz (.str ⟨#[cd e i j]⟩) true,by rw[p];simp⟩
  ·rintro h ⟨c,d,rfl⟩
   rw[rO,m];walk_at "ev";exact⟨_,_,_,_,by rw[jg]⟩
 ·rintro h ⟨a,b,c,d,rfl⟩
  rw[rO,Kr];walk_at "ev"
theorem kW(h:a.length<64):ee (a.map .int)=some (.own ((sortI a).map .int) true):=by unfold ee;rw[bW];exact K5 h
def gv(l:List Nat):List Int:=l.map λs:Nat=>(s:Int)
def G8(a:List Nat):List Int:=sortI ((List.range 8).map λj=>(((gO a).getD j 0:Nat):Int)-(j:Nat))
theorem jJ{a:List Str}{i:Nat}{z:Str}(h:a[i]? =some z):dH (a.map PV.str) (i:Int)=some (.str z):=bh (by rw[LA,h];rfl)
theorem HV{n m:Bool}:cC .Add (.frz (.lst a) n) (.frz (.lst b) m)=fB (a++b) (n&&m):=rfl
theorem BB{n m:Bool}:cC .Add (.own a n) (.frz (.lst b) m)=fB (a++b) (n&&m):=rfl
theorem uE(z:Str):List.zipWith dc (List.range z.length) (signs z)=(List.range z.length).map λc=>dc c (.str ⟨#[z.cps.toList.getD c 0]⟩):=by
 refine List.ext_getElem (by rw[Mg,bn,Kr,Nat.min_eq_left (by rw[LX];exact Ky _)]) λi h1 h2=> ?_;have a:i<z.length:=by simpa using h2
 have b:i<z.cps.toList.length:=by rw[LZ];exact a
 rw[List.getElem_zipWith,NG,NP]
 congr 1
 unfold signs;rw[NG,Kz,Kv b];rfl
theorem KU(k:Nat)(z:Str)(a:z.length<=8):aC P (k+1) 109 [.str z]=some (.lst ((ef z).map λc=>.int (c:Nat))):=by
 refine dP rfl rfl ?_;simp only[KF,entry];walk_at "ev";rw[show jq (.frz (.str z) true)=some (List.zipWith dc (List.range z.length) (signs z),true)from rfl,uE];walk_at "ev";rw[K5 (by rw[Kr,LX];omega),eV (p:=λc=>z.cps.toList.getD c 0==120) (g:=λc=>PV.int c) (λc hc=>by
  show(iV (.tup [.int c,.str ⟨#[z.cps.toList.getD c 0]⟩])).bind _=_;simp only[iV];walk_at "ev";rw[om];cases z.cps.toList.getD c 0==120
  ·walk_at "ev"
  ·walk_at "ev")]
 walk_at "ev";rfl
def hasA(z y:Str):Bool:=(ef y).all λc=>z.cps.toList.getD c 0==120
theorem me:c∈ef z↔c<z.length/\z.cps.toList.getD c 0=120:=by unfold ef;rw[Ly,Lg,Lx]
theorem Dt(k:Nat)(z y:Str)(g:z.length<=8)(f:y.length=z.length):aC P (k+2) 141 [.str z,.str y]=some (.bl (hasA z y)):=by
 refine dP rfl rfl ?_;simp only[KA,entry];have e:=KU k y (by omega);have d:(ef y).length<=8:=by unfold ef;refine LM (ME _ _) ?_;rw[LX];omega
 walk_at "ev";rw[e];walk_at "ev";rw[K5 (by rw[Kr];omega),bC (λc a=>by
  have a:=(me.mp a).1
  have b:dH z.cps.toList c=some (z.cps.toList.getD c 0):=bh (by rw[List.getD,Kv (by rw[LZ];show c<z.length;omega)];rfl)
  walk_at "ev";rw[K5 (by omega),b];walk_at "ev";rw[om])]
 walk_at "ev";rw[eK];walk_at "ev";rw[NH];rfl
theorem An{n:Bool}:jq (.frz (.tup a) n)=some (List.zipWith dc (List.range a.length) a,n):=rfl
theorem HE{n:Bool}:jq (.own a n)=some (List.zipWith dc (List.range a.length) a,n):=rfl
theorem c142(k:Nat)(f:List Str)(w:Nat)(v:Wd f w)(I:f.length<=8)(K:w<=8)(m:∀z∈f,∀y∈f,hasA z y=true\/hasA y z=true):aC P (k+3) 142 [.tup (f.map .str)]=some .non:=by
 refine dP rfl rfl ?_;have C:=bH f;simp only[HK,entry];walk_at "ev";rw[C];refine eG (xs:=List.zipWith dc (List.range (f.map PV.str).length) (f.map PV.str)) (n:=true) ?_ (λi l=>∃a b c d,l=[.frz (.tup (f.map .str)) true,a,b,c,d]) ⟨_,_,_,_,rfl⟩ ?_ ?_
 ·walk_at "ev"
  rw[An];walk_at "ev"
 ·rintro i y l o ⟨a,b,c,d,rfl⟩
  obtain⟨y,g,rfl⟩:=kN o;obtain⟨z,r,rfl⟩:∃z,f[i]? =some z/\y=.str z:=by
   rw[LA]at g;cases e:f[i]? with
   |none=>rw[e]at g;cases g|some z=>rw[e]at g;exact⟨z,rfl,(LR g).symm⟩
  have p:=K9 r;have J:=v z p;have H:i<f.length:=(Kw.mp r).1;refine⟨_,rfl,?_⟩;walk_at "ev";refine eG (xs:=(List.range (f.length-(i+1))).map λj=>.int (((i:Int)+1)+(j:Nat))) (n:=true) ?_ (λj l=>∃c d,l=[.frz (.tup (f.map .str)) true,.frz (.int (i:Nat)) true,.frz (.str z) true,c,d]) ⟨_,_,rfl⟩ ?_ ?_
  ·walk_at "ev"
   simp only[kd,bT,Kr];rw[K5 ⟨by omega,by omega,by omega,by omega⟩,show((f.length:Int)-((i:Int)+1)).toNat=f.length-(i+1)by omega];rfl
  ·rintro j y l o ⟨c,d,rfl⟩
   obtain⟨M,rfl⟩:=nY o;refine⟨_,rfl,?_⟩;have s:i+1+j<f.length:=by omega
   have u:=NE s;have L:=v _ u;have E:(i:Int)+1+(j:Nat)=((i+1+j:Nat):Int):=by omega
   have D:=jJ (Kv s);have A:=Dt k z f[i+1+j] (by omega) (by omega);have x:=Dt k f[i+1+j] z (by omega) (by omega);walk_at "ev";rw[E,D];walk_at "ev";rw[A];walk_at "ev"
   rcases m z p _ u with q|q
   ·rw[q]
    walk_at "ev";exact⟨_,_,rfl⟩
   ·cases h:hasA z f[i+1+j]
    ·walk_at "ev"
     rw[x,q];walk_at "ev";exact⟨_,_,rfl⟩
    ·walk_at "ev"
     exact⟨_,_,rfl⟩
  ·rintro l ⟨c,d,rfl⟩
   walk_at "ev";exact⟨_,_,_,_,rfl⟩
 ·rintro l ⟨a,b,c,d,rfl⟩
  walk_at "ev"
def eI(z:Str):Int:=((z.cps.toList.filter (·==120)).length:Nat)
theorem c143(k:Nat)(a:List Str)(w:Nat)(c:Wd a w)(e:a.length<=8)(d:w<=8)(b:∀z∈a,∀y∈a,hasA z y=true\/hasA y z=true):aC P (k+4) 143 [.tup (a.map .str)]=some (.lst ((sortI (a.map eI)).map .int)):=by
 refine dP rfl rfl ?_;have f:=c142 k a w c e d b;simp only[J9,entry];walk_at "ev";rw[f];walk_at "ev";rw[K5 (by rw[Kr];omega),bC (G:=λz=>PV.int (eI z)) (λz hz=>by walk_at "ev";rw[show(Str.ofString "x")=⟨#[120]⟩from rfl,lS];rfl)]
 walk_at "ev";rw[show(a.map λz=>PV.int (eI z))=(a.map eI).map PV.int from by rw[Lc];rfl,kW (by rw[Kr];omega)];walk_at "ev"
theorem xM(l:List Int):List.zipWith dc (List.range (l.map PV.int).length) (l.map PV.int)=(List.range l.length).map λj=>dc j (.int (l.getD j 0)):=by
 refine List.ext_getElem (by simp) λi h1 h2=> ?_;have a:i<l.length:=by simpa using h2
 rw[List.getElem_zipWith,NG,NG,NP,NP,Kz,Kv a];rfl
theorem c144(k:Nat)(b:List Str)(w:Nat)(a:List Nat)(o:Wd b w)(m:b.length<=8)(p:w<=8)(c:∀z∈b,∀y∈b,hasA z y=true\/hasA y z=true)(i:sortI (b.map eI)=gv a)(l:a.length<=8) :
  aC P (k+5) 144 [.tup (b.map .str)]=some (.lst ((G8 a).map .int)):=by
 refine dP rfl rfl ?_;have e:=c143 k b w o m p c;rw[i]at e;have n:(gv a).length=a.length:=by simp[gv]
 have g:(8:Int)-(((gv a).map PV.int).length:Nat)=((8-a.length:Nat):Int):=by rw[Kr,n];omega
 have f:((List.range (8-a.length)).map λ_=>PV.int 0)++(gv a).map PV.int=(gv (gO a)).map PV.int:=by
  unfold gv gO;rw[LI,LI,List.map_replicate,List.map_replicate]
  congr 1
  rw[List.map_const',LX];rfl
 have d:=zZ l;simp only[J4,entry];walk_at "ev";rw[e];walk_at "ev";rw[g,K5 ⟨by omega,by omega,by simp;omega⟩];walk_at "ev";rw[L4,Jq];walk_at "ev";rw[HV,f];walk_at "ev";rw[K5 (by simp[gv,d])];walk_at "ev";rw[HE];walk_at "ev";rw[xM,show(gv (gO a)).length=8 by simp[gv,d]];rw[K5 (by simp),bC (G:=λj=>PV.int ((((gO a).getD j 0:Nat):Int)-j)) (λj hj=>by
  have h:(gv (gO a)).getD j 0=(((gO a).getD j 0:Nat):Int):=by unfold gv;rw[List.getD,LA,List.getD];cases(gO a)[j]? <;>rfl
  show(iV (.tup [.int j,.int ((gv (gO a)).getD j 0)])).bind _=_;simp only[iV,h];walk_at "ev")]
 walk_at "ev";rw[show((List.range 8).map λj=>PV.int ((((gO a).getD j 0:Nat):Int)-j))=((List.range 8).map λj=>(((gO a).getD j 0:Nat):Int)-j).map PV.int from by rw[Lc];rfl,kW (by simp)];walk_at "ev";rfl
def BY(a:List Str)(i j:Nat):Bool:=hasA (a.getD i "") (a.getD j "")||hasA (a.getD j "") (a.getD i "")
def ID(a:List Str)(v:PV):Prop:=(v=.non/\∀i j,i<j->j<a.length->BY a i j=true) \/ ∃i j:Nat,i<j/\j<a.length/\v=.tup [.int (i:Nat),.int (j:Nat)]/\BY a i j=false/\∀c b,c <b ->b <a.length->(c <i\/(c =i/\b <j))->BY a c b =true
theorem HL{v o:PV}(a:ID c v)(b:ID c o):v=o :=by
 rcases a with⟨rfl,a⟩|⟨i,j,m,l,rfl,g,r⟩
 ·rcases b with⟨rfl,b⟩|⟨i,j,b1,h,rfl,e,n⟩
  ·rfl
  ·rw[a i j b1 h]at e;cases e
 ·rcases b with⟨rfl,b⟩|⟨d,f,b1,h,rfl,e,n⟩
  ·rw[b i j m l]at g;cases g
  ·have u:¬(d <i\/(d =i/\f <j)):=λz=>by rw[r d f b1 h z]at e;cases e
   have s:¬(i<d \/(i=d /\j<f)):=λz=>by rw[n i j m l z]at g;cases g
   have q:i=d :=by omega
   have p:j=f :=by omega
   rw[q,p]
theorem kF{a:List Str}{i:Nat}(h:a[i]? =some z):a.getD i ""=z:=by rw[Kz,h];rfl
theorem Ei(k:Nat)(rows:List Str)(w:Nat)(hw:Wd rows w)(h8:rows.length<=8)(w8:w<=8):∃v,aC P (k+3) 142 [.tup (rows.map .str)]=some v/\ID rows v:=by
 refine kb rfl rfl ?_;have im:=bH rows;simp only[HK,entry];walk_at "ev";rw[im];refine eG (xs:=List.zipWith dc (List.range (rows.map PV.str).length) (rows.map PV.str)) (n:=true) ?_ (λi τ=>(∀i' j',i' <i->i' <j' ->j' <rows.length->BY rows i' j' =true)/\∃a b c d,τ=[.frz (.tup (rows.map .str)) true,a,b,c,d]) ⟨λ_ _ z=>absurd z (Nat.not_lt_zero _),_,_,_,_,rfl⟩ ?_ ?_
 ·walk_at "ev"
  rw[An];walk_at "ev"
 ·rintro i y τ hy ⟨inv,a,b,c,d,rfl⟩
  obtain⟨y,hy2,rfl⟩:=kN hy;obtain⟨z,hz,rfl⟩:∃z,rows[i]? =some z/\y=.str z:=by
   rw[LA]at hy2;cases e:rows[i]? with
   |none=>rw[e]at hy2;cases hy2|some z=>rw[e]at hy2;exact⟨z,rfl,(LR hy2).symm⟩
  have zm:=K9 hz;have zl:=hw z zm;have hi:i<rows.length:=(Kw.mp hz).1;refine⟨_,rfl,?_⟩;walk_at "ev";refine eG (xs:=(List.range (rows.length-(i+1))).map λj=>.int (((i:Int)+1)+(j:Nat))) (n:=true) ?_ (λj τ=>(∀j',i<j' ->j' <i+1+j->BY rows i j' =true)/\∃c d,τ=[.frz (.tup (rows.map .str)) true,.frz (.int (i:Nat)) true,.frz (.str z) true,c,d]) ⟨λ_ z1 z2=>absurd z1 (by omega),_,_,rfl⟩ ?_ ?_
  ·walk_at "ev"
   simp only[kd,bT,Kr];rw[K5 ⟨by omega,by omega,by omega,by omega⟩,show((rows.length:Int)-((i:Int)+1)).toNat=rows.length-(i+1)by omega];rfl
  ·rintro j y τ hy ⟨inj,c,d,rfl⟩
   obtain⟨hj,rfl⟩:=nY hy;refine⟨_,rfl,?_⟩;have hq:i+1+j<rows.length:=by omega
   have ym:=NE hq;have yl:=hw _ ym;have e0:(i:Int)+1+(j:Nat)=((i+1+j:Nat):Int):=by omega
   have e1:=jJ (Kv hq);have e2:=Dt k z rows[i+1+j] (by omega) (by omega);have e3:=Dt k rows[i+1+j] z (by omega) (by omega);have ek:BY rows i (i+1+j)=(hasA z rows[i+1+j]||hasA rows[i+1+j] z):=by unfold BY;rw[kF hz,kF (Kv hq)]
   have go:BY rows i (i+1+j)=true->∀j',i<j' ->j' <i+1+(j+1)->BY rows i j' =true:=λq j' h1 h2=>by by_cases h:j' =i+1+j;rw[h];exact q;exact inj j' h1 (by omega)
   walk_at "ev";rw[e0,e1];walk_at "ev";rw[e2];walk_at "ev";cases h:hasA z rows[i+1+j]
   ·walk_at "ev"
    rw[e3];walk_at "ev";cases h' :hasA rows[i+1+j] z
    ·walk_at "ev"
     refine⟨_,rfl,.inr ⟨i,i+1+j,by omega,hq,rfl,by rw[ek,h,h'];rfl,λi' j' h1 h2 h3=> ?_⟩⟩
     rcases h3 with h3|⟨rfl,h3⟩
     ·exact inv i' j' h3 h1 h2
     ·exact inj j' h1 h3
    ·walk_at "ev"
     exact⟨go (by rw[ek,h,h'];rfl),_,_,rfl⟩
   ·walk_at "ev"
    exact⟨go (by rw[ek,h];rfl),_,_,rfl⟩
  ·rintro τ ⟨inj,c,d,rfl⟩
   rw[Kr,LX]at inj;walk_at "ev";refine⟨λi' j' h1 h2 h3=> ?_,_,_,_,_,rfl⟩
   by_cases h:i' =i;rw[h];exact inj j' (by omega) (by omega)
   ·exact inv i' j' (by omega) h2 h3
 ·rintro τ ⟨inv,a,b,c,d,rfl⟩
  rw[Mg,LX,Kr,NC]at inv;walk_at "ev";exact⟨_,rfl,.inl ⟨rfl,λi j h1 h2=>inv i j (by omega) h1 h2⟩⟩
theorem AV(z:Str):hasA z z=true:=by unfold hasA;rw[LL];intro c a;rw[(me.mp a).2];rfl
theorem Cz(h:ID a .non):∀z∈a,∀y∈a,hasA z y=true\/hasA y z=true:=by
 rcases h with⟨_,h⟩|⟨_,_,_,_,z,_⟩
 ·intro z f y e
  obtain⟨i,c,rfl⟩:=M7.mp f;obtain⟨j,b,rfl⟩:=M7.mp e;have d:=λi j c b hij=>by have:=h i j hij b;unfold BY at this;rw[kF (Kv c),kF (Kv b)]at this;exact Bool.or_eq_true_iff.mp this
  rcases Nat.lt_trichotomy i j with q|q|q
  ·exact d i j c b q
  ·subst q
   exact .inl (AV _)
  ·exact(d j i b c q).symm
 ·cases z
section
open PySem.Spec PyProof.Rows
theorem JC:ak N47 ["levels","bits"] (aI s47):=⟨rfl,rfl,rfl,by decide +kernel,rfl,by decide +kernel,by decide +kernel⟩
set_option tactic.hygienic true in
theorem x8{k:Nat}(i:f 47=some II)(h:aC f (k+1) 47 c=some r):bj c=some r:=by
 unfold aC at h;rw[i]at h;simp only[K2]at h
 split at h
 ·rename_i d
  obtain⟨a,b,rfl⟩:=DA d
  ·simp only[II,wF,wG,gG,entry]at h
   have e:((List.map (λv=>TV.frz v (imm v)) [a,b]++List.replicate (9-[a,b].length) TV.un).take 2).map TV.valD=[a,b]:=rfl;rw[e]at h;cases g:bj [a,b]with
   |none=>rw[g]at h;cases h|some v=>rw[g]at h;cases h;rfl
 ·cases h
theorem Ev(h:bj a=some r):a.length=2:=by
 unfold bj at h
 split at h;rfl;cases h
abbrev jW1(H:Hp)(e:Addr)(a:List aV)(i m:Nat)(d:List V)(c :Hp):Prop:=m=a.length-i/\i<=a.length/\∃b,d=b.map V.ref/\sL H e b (a.take i) c
abbrev jW2(H:Hp)(j l f:Addr)(n:List Addr)(m:List aV)(B:List Int)(i:Nat)(h:L2.St)(G:Hp):Prop:=∃a b c d e g,h=[some (.ref j),some (.ref l),some (.ref f),a,b,c,d,e,g]/\sL H f n (wl m B i) G
abbrev jW3(H:Hp)(l h b:Addr)(p:List Addr)(m:List aV)(B:List Int)(i:Nat)(a f:Addr)(o:Obj)(ct n:aV)(j:Nat)(c:L2.St)(G:Hp):Prop:=∃d e g,c=[some (.ref l),some (.ref h),some (.ref b),some (.int (i:Nat)),some (.ref a),some (.ref f),d,e,g]/\G a=some (.frz o (.dK (bI ct)))/\sL H b p ((wl m B i).set (i+1) ((ct.take j).foldl (gS B) n)) (L2.upd G a (.dK (bI ct)))
abbrev jW4(H:Hp)(j h c:Addr)(p:List Addr)(m:List aV)(B:List Int)(i:Nat)(a f:Addr)(o:Obj)(ct:aV)(b d:Int)(n:aV)(l:Nat)(e:L2.St)(G:Hp):Prop:=∃g,e=[some (.ref j),some (.ref h),some (.ref c),some (.int (i:Nat)),some (.ref a),some (.ref f),some (.int b),some (.int d),g]/\G a=some (.frz o (.dK (bI ct)))/\sL H c p ((wl m B i).set (i+1) ((B.take l).foldl (cB b d) n)) (L2.upd G a (.dK (bI ct)))
set_option tactic.hygienic true in
theorem Gs{K:W.Frag}(hdi:mg "dict"=none)(hen:mg "enumerate"=none)(D:eh K mg "with_line" s47 ["levels","bits"] f fd)(p:Program)(w:World)(base:Heap)(k:Nat)(_:∀y g,F.lookup y=some g->∃b gd qs,mg y=some (.ref b)/\W.keepIn K (.ref b)=true/\Binds K gd qs []/\aq p w K mg base dI k b gd qs (kB K (aC P k g))):aq p w K mg base dI (k+1) f fd ["levels","bits"] (kB K (aC P (k+1) 47)):=by
 refine D.fn.ok JC (λvs H Q E h=> ?_) (λcdv A outer s H vs Q E hr h=> ?_)
 ·obtain⟨pvs,r,h1,h2,_⟩:=h
  rw[<- h1.len];exact Ev (x8 rfl h2)
 obtain⟨pvs,r,h1,h2,q⟩:=h
 replace h2:=x8 rfl h2
 unfold bj at h2
 split at h2
 case h_2=>cases h2
 rename_i ls bs;cases e1:pc ls with
 |none=>rw[e1]at h2;cases h2|some Ls =>
 cases e2:aU bs with
 |none=>rw[e1,e2]at h2;cases h2|some B =>
 rw[e1,e2]at h2;dsimp only[Option.bind]at h2
 split at h2
 case isFalse=>cases h2
 rename_i hz;cases h2;obtain⟨z1,z2,z3⟩:=hz;have z3:∀c∈Ls,c.length<=1000:=λc hc=>by simpa using LL.mp z3 c hc
 have hls:=pb e1;subst hls;obtain⟨u1,_,rfl,r1,h1⟩:=h1;obtain⟨u2,_,rfl,r2,h1⟩:=h1;obtain rfl:=h1;obtain⟨Lv,us,rfl,_,sqL,rl⟩:=Rp.lst.mp r1;obtain⟨Bt,bu,rfl,_,sqB,rb⟩:=Rp.lst.mp r2;rw[hR e2]at rb;have eb:=aJ.ints.mp rb;subst eb;have lv:∀(i:Nat)(c:aV),Ls[i]? =some c->∃a,us[i]? =some (.ref a)/\H a=some (.dK (bI c)):=λi c hc=>by obtain⟨u,hu,ru⟩:=rl.at (i:=i) (x:=fF c) (by rw[LA,hc];rfl);obtain⟨a,rfl,ha⟩:=Ff ru;exact⟨a,hu,bR _ _ ha⟩
 have ulen:us.length=Ls.length:=by have:=rl.len;simpa using this.symm
 have nd:=JC.nd;have hu:=Ec hr;have hs:sizeLine=16777216:=Lp
 refine⟨_,aF (ao (i:=2) nd rfl (Or.inl rfl) (bN GD (vB (N' :=["level"]) (src:=[none]) rfl (fg (pv 0)) True.intro rfl (by decide +kernel) (by decide +kernel) rfl) (dv (aB iU aH))))
  (aF (du Lq rfl (qN rfl hen (aB (pv 0) aH)) (kq rfl (bq (av (i:=3) nd rfl (Or.inl rfl)) (bq (av (i:=4) nd rfl (Or.inl rfl)) iS))) (aF (ao (i:=5) nd rfl (Or.inl rfl) (ku eS (pv 2) (bN gr (pv 3) bA) (λ_ _=>rfl))) (aO (Ca (du Lq rfl (qY (pv 4)) (kq rfl (bq (av (i:=6) nd rfl (Or.inl rfl)) (bq (av (i:=7) nd rfl (Or.inl rfl)) iS))) (aO (du Lq rfl (fg (pv 1)) (av (i:=8) nd rfl (Or.inl rfl)) (aO (gW (nu EX (bN GE (pv 6) (pv 8)) bA (tU _)) (aO (kG hu (pv 5) (bN EW (pv 6) (pv 8)) (bN gr (zW hu (pv 5) (bN EW (pv 6) (pv 8)) bA ⟨rfl,rfl,rfl,rfl⟩) (pv 7)) rfl)) bF))))))))) (aO (bc (pv 2)))),?_⟩
 refine⟨_,rfl,Lv,rfl,⟨_,sqL⟩,λD0 hD0=> ?_⟩;refine⟨jW1 H D0 Ls,⟨Ls.length,by simp,LY _,[],rfl,⟨aM hD0 _,hD0,aD,by simp,by simp,by simp,λq d c e=>by simp at e⟩⟩,?_⟩;rintro i m ys H' ⟨rfl,hi,ds,rfl,st⟩
 by_cases hlt:i<Ls.length
 ·right
  have ec:Ls[i]? =some Ls[i]:=by simp[hlt]
  obtain⟨a,ua,ha⟩:=lv i _ ec;refine⟨⟨us,.ref a,st.1.seq sqL,ua⟩,λx H1 y=> ?_⟩;obtain⟨rfl,y⟩:=y;have ex:=y us (st.1.seq sqL);rw[ua]at ex;cases ex;intro C s2 H2 fp cl;refine⟨mr 0,pk,_,av (by simp) rfl (.inl rfl) (.inr rfl),fL,bY re rfl hdi boot_dict (aB (pv 0) aH),?_⟩;refine⟨rm rfl,?_⟩;refine⟨_,rfl,a,_,rfl,.inl (st.1 _ _ ha),λpn hpn=> ?_⟩;have dl:ds.length=i:=by rw[st.2.2.2.2.2.1,Ln];omega
  refine⟨by rw[aA (aG st.2.2.1 hpn)];exact st.2.2.1,by rw[Kr];omega,Ls.length-(i+1),by omega,rfl,hlt,ds++[pn],by rw[LI];rfl,?_⟩;have e:Ls.take (i+1)=Ls.take i++[Ls[i]]:=by rw[Ma,ec];rfl
  rw[e];exact st.push hpn
 ·left
  have ei:i=Ls.length:=by omega
  subst ei;rw[L8]at st;refine⟨⟨us,st.1.seq sqL,by omega⟩,?_⟩;intro p0 hp0;refine⟨by show 1<=sizeLine;decide,λl hl=> ?_⟩;have dl:ds.length=Ls.length:=st.2.2.2.2.2.1;have s1:=aM hp0 (.dK []);have s2:=aM hl (.lst [.ref p0]);refine⟨D0,l,ds.map V.ref,[.ref p0],rfl,rfl,s2 _ _ (s1 _ _ st.2.2.1),aD,by rw[Kr,dl,hs];simp;omega,λAa hAa=> ?_⟩;have stA:sL H Aa (ds++[p0]) (wl Ls B 0) (L2.upd (L2.upd (L2.upd H' p0 (.dK [])) l (.lst [.ref p0])) Aa (.lst (ds.map V.ref++[.ref p0]))):=by
   have hDp:D0≠p0:=aG st.2.2.1 hp0;have hAl:Aa≠l:=λz=>by rw[z,aD]at hAa;cases hAa
   have hA1:L2.upd H' p0 (.dK []) Aa=none:=by rw[aA hAl]at hAa;exact hAa
   have hAp:Aa≠p0:=λz=>by rw[z,aD]at hA1;cases hA1
   have hA0:H' Aa=none:=by rw[aA hAp]at hA1;exact hA1
   have hDA:D0≠Aa:=aG st.2.2.1 hA0;obtain⟨g1,g2,g3,g4,g5,g6,g7⟩:=st.push (p:=p0) (c:=[]) hp0;have hlD:l≠D0:=λz=>by rw[z,aA hDp,st.2.2.1]at hl;cases hl
   have hlp:l≠p0:=λz=>by rw[z,aD]at hl;cases hl
   have inn:∀(qq:Nat)(d:Addr)(c:aV),(ds++[p0])[qq]? =some d->(Ls++[[]])[qq]? =some c->H d=none/\d≠Aa/\d≠l/\L2.upd H' p0 (.dK []) d=some (.dK (bI c)):=λqq d c w1 w2=>by obtain⟨m0,m1⟩:=g7 qq d c w1 w2;have dD:d≠D0:=λz=>g4 (z▸K9 w1);rw[aA dD]at m1;have m1:L2.upd H' p0 (.dK []) d=some (.dK (bI c)):=m1;exact⟨m0,(λz=>by rw[z,hA1]at m1;cases m1),(λz=>by rw[z,hl]at m1;cases m1),m1⟩
   refine⟨((st.1.trans s1).trans s2).trans (aM hAa _),st.1.free hA0,by rw[aD,LI];rfl,λz=> ?_,g5,g6,λqq d c w1 w2=> ?_⟩
   ·obtain⟨qq,hqq,e⟩:=M7.mp z
    exact(inn qq Aa ((Ls++[[]])[qq]'(by rw[<- g6];exact hqq)) (by rw[Kv hqq,e]) (by simp[])).2.1 rfl
   ·obtain⟨m0,m1,m2,m3⟩:=inn qq d c w1 w2
    exact⟨m0,by rw[aA m1,aA m2];exact m3⟩
  have sqB' :∀{G:Hp},aE H G->bJ K G Bt (B.map V.int):=λs=>s.seq sqB;refine⟨_,rfl,Lv,us,rfl,(stA.1).seq sqL,Ad (src:=λH xs=>bJ K H Lv xs) (jW2 H Lv Bt Aa (ds++[p0]) Ls B) ⟨_,_,_,_,_,_,rfl,stA⟩ (λi σ G _ ⟨_,_,_,_,_,_,_,st⟩=>st.1.seq sqL) ?_ ?_⟩
  ·rintro i x pt σ G ex hpt ⟨a,b,c,d,e,g,rfl,st⟩
   have hi:i<us.length:=(Kw.mp ex).1;have ec:Ls[i]? =some (Ls[i]'(by omega)):=by simp[show i<Ls.length by omega]
   obtain⟨lev,ua,hlev⟩:=lv i _ ec;rw[ex]at ua;cases ua;obtain⟨ct,hct⟩:∃ct,ct=Ls[i]'(by omega):=⟨_,rfl⟩;rw[<- hct]at ec hlev;have ctl:ct.length<=1000:=z3 ct (K9 ec);have wlen:=sQ Ls B i;obtain⟨ab,hab⟩:∃ab,(ds++[p0])[i+1]? =some ab:=⟨(ds++[p0])[i+1]'(by rw[st.2.2.2.2.2.1,wlen];omega),by simp[]⟩;obtain⟨c0,hc0⟩:∃c0,(wl Ls B i)[i+1]? =some c0:=⟨(wl Ls B i)[i+1]'(by rw[wlen];omega),by simp[show i+1<(wl Ls B i).length by rw[wlen];omega]⟩;have st:=st.ext (aM hpt (.tup [.int (i:Nat),.ref lev]));refine⟨pt,_,rfl,cU.of aD,rfl,_,_,rfl,_,_,rfl,rfl,?_⟩;refine⟨_,rfl,_,rfl,_,_,rfl,rfl,Aa,_,_,.ref ab,rfl,rfl,bJ.of st.2.2.1,?_,?_⟩
   ·have:=bh (xs:=(ds++[p0]).map V.ref) (j:=i+1) (v:=.ref ab) (by rw[LA,hab];rfl)
    exact this
   refine⟨_,rfl,lev,bI ct,rfl,st.1 _ _ hlev,λo nf=> ?_⟩;have abn:H ab=none:=(st.at hab hc0).1;have abl:ab≠lev:=λz=>by rw[z,hlev]at abn;cases abn
   obtain⟨G1,hG1⟩:∃G1,G1=L2.upd G pt (.tup [.int (i:Nat),.ref lev]):=⟨_,rfl⟩;rw[<- hG1]at st ⊢;have g1lev:G1 lev=some (.dK (bI ct)):=st.1 _ _ hlev;have ini:L2.upd (L2.upd G1 lev (.frz o (.dK (bI ct)))) lev (.dK (bI ct))=G1:=by
    rw[Bk]
    funext bb
    by_cases hb:bb=lev
    ·subst hb
     rw[aD,g1lev]
    ·rw[aA hb]
   refine xL (jW3 H Lv Bt Aa (ds++[p0]) Ls B i lev ab o ct c0) ⟨_,_,_,rfl,aD,?_⟩ (λj σ G _ ⟨_,_,_,_,hf,_⟩=>hf) ?_ ?_
   ·rw[ini]
    have e0:(wl Ls B i).set (i+1) c0=wl Ls B i:=by
     refine List.ext_getElem? λn=> ?_;rw[N5]
     split
     ·rename_i en
      subst en;rw[hc0,K5 (by rw[wlen];omega)]
     ·rfl
    rw[List.take_zero,List.foldl_nil,e0];exact st
   ·rintro j kk xx pp σ G2 ekv hpp ⟨d,e,g,rfl,hf,st2⟩
    obtain⟨tk,cn,etc,rfl,rfl⟩:=Dk ekv;have hj:j<ct.length:=(Kw.mp etc).1;have ppl:pp≠lev:=λz=>by rw[z,hf]at hpp;cases hpp
    refine⟨pp,_,rfl,cU.of aD,rfl,_,_,rfl,_,_,rfl,rfl,?_⟩;have st3:=st2.ext (wd (o:=.tup [kV (Sum.inl tk),.int cn]) (u:=.dK (bI ct)) hpp ppl);obtain⟨cj,hcj⟩:∃cj,cj=(ct.take j).foldl (gS B) c0:=⟨_,rfl⟩;rw[<- hcj]at st3;have cjl:cj.length<=1000+1000*100+1000*100:=by
     have h0:c0.length<=1000:=by
      have:=EG Ls B i (i+1) (by omega);rw[hc0]at this
      rcases LP.mp (K9 this.symm)with hm|hm
      ·exact z3 c0 hm
      ·have:c0=[]:=by simpa using hm
       rw[this];simp
     have h1:=mw B (ct.take j) c0;have h2:(ct.take j).length*B.length<=1000*100:=NT (by rw[Ln];omega) z2;rw[hcj];omega
    refine⟨_,rfl,Bt,rfl,⟨_,ur (sqB' st3.1)⟩,rE (xs:=B.map V.int) (jW4 H Lv Bt Aa (ds++[p0]) Ls B i lev ab o ct tk cn cj) ⟨_,rfl,by rw[aA (MC ppl)];exact hf,by rw[List.take_zero,List.foldl_nil];exact st3⟩ (λl σ G _ ⟨_,_,_,st⟩=>ur (sqB' st.1)) ?_ ?_⟩
    ·rintro l xb σ G3 exb ⟨g,rfl,hf3,st4⟩
     obtain⟨b,eb,rfl⟩:∃b,B[l]? =some b/\xb=.int b:=by
      rw[LA]at exb;cases e:B[l]? with
      |none=>rw[e]at exb;cases exb|some b=>rw[e]at exb;exact⟨b,rfl,(LR exb).symm⟩
     have hl:l<B.length:=(Kw.mp eb).1;obtain⟨cur,hcur⟩:∃cur,cur=(B.take l).foldl (cB tk cn) cj:=⟨_,rfl⟩;have e7:(B.take (l+1)).foldl (cB tk cn) cj=cB tk cn cur b:=by rw[Ma,eb,List.foldl_append,<-hcur];rfl
     rw[<- hcur]at st4;have curl:cur.length<sizeLine:=by have:=jT tk cn (B.take l) cj;rw[<- hcur,Ln]at this;rw[hs];omega
     have hcs:((wl Ls B i).set (i+1) cur)[i+1]? =some cur:=by rw[Ll (by rw[wlen];omega)]
     obtain⟨_,hab1⟩:=st4.at hab hcs;rw[aA abl]at hab1;refine⟨_,rfl,_,rfl,_,_,rfl,rfl,rfl,_,rfl,ite2 (λhc=> ?_) (λhc=> ?_)⟩
     ·have hc:Builtin.bitAnd tk b=0:=V.int.inj (LJ hc)
      obtain⟨old,hold⟩:∃old,old=(bB cur (Builtin.bitOr tk b)).getD 0:=⟨_,rfl⟩;refine⟨_,rfl,ab,rfl,.inl ⟨_,.inl hab1⟩,_,rfl,_,rfl,_,_,rfl,rfl,_,gR.k (k:=Sum.inl (Builtin.bitOr tk b)) hab1,_,rfl,old,cn,?_,rfl,?_⟩
      ·rw[oa,hold]
       cases bB cur (Builtin.bitOr tk b)<;>rfl
      refine⟨_,rfl,_,rfl,_,rfl,_,_,rfl,rfl,ab,_,rfl,r9.k (k:=Sum.inl (Builtin.bitOr tk b)) hab1 (by rw[rQ];exact curl),_,rfl,?_,?_⟩
      ·rw[aA (MC abl)]
       exact hf3
      ·have e8:cB tk cn cur b=dF cur (Builtin.bitOr tk b) (old+cn):=by
        unfold cB xi;rw[K5 hc,hold]
       rw[e7,e8,oZ,yC abl];have:=st4.put (c' :=dF cur (Builtin.bitOr tk b) (old+cn)) hab;rw[List.set_set]at this;exact this
     ·have hc:¬Builtin.bitAnd tk b=0:=λz=>hc (LU (L5 V.int z))
      refine⟨_,rfl,hf3,?_⟩;have e8:cB tk cn cur b=cur:=by unfold cB;rw[LC hc]
      rw[e7,e8];exact st4
    ·rintro σ G3 ⟨g,rfl,hf3,st4⟩
     refine⟨_,_,_,rfl,hf3,?_⟩;have e5:(ct.take (j+1)).foldl (gS B) c0=((B.take (B.map V.int).length).foldl (cB tk cn) cj):=by rw[Ma,etc,List.foldl_append,<-hcj,Kr,L8];rfl
     rw[e5];exact st4
   ·rintro σ G2 ⟨d,e,g,rfl,hf,st2⟩
    refine⟨lev,o,bI ct,hf,nf,_,_,_,_,_,_,rfl,?_⟩;have e6:(wl Ls B i).set (i+1) ((ct.take (bI ct).length).foldl (gS B) c0)=wl Ls B (i+1):=by rw[rQ,L8,wl,Kz,hc0,Kz,ec];rfl
    rw[<- e6];exact st2
  ·rintro σ G ⟨a,b,c,d,e,g,rfl,st⟩
   refine⟨_,rfl,?_⟩;refine q _ _ st.1 (Rp.lst.mpr ⟨Aa,_,rfl,λ_=>⟨st.2.1,st.2.2.1⟩,bJ.of st.2.2.1,?_⟩);have eL:us.length=Ls.length:=ulen;rw[eL]at st;refine qA st.2.2.2.2.2.1 λqq d' c' w1 w2=> ?_;obtain⟨m0,m1⟩:=st.at w1 w2;refine⟨m0,?_⟩;unfold del;rw[LC (λz:d' =Aa=>st.2.2.2.1 (z▸K9 w1))];exact m1
end
def ge(a:List Nat)(i:Nat):List Int:=((List.range i).filter λc=>a.getD c 0==120).map λc=>((2^c:Nat):Int)
def bi(z:Str):List Int:=ge z.cps.toList z.length
theorem uS(a:List Nat)(i:Nat):ge a (i+1)=ge a i++(if a.getD i 0==120 then[((2^i:Nat):Int)]else[]):=by
 unfold ge;rw[List.range_succ,List.filter_append,LI];cases h:a.getD i 0==120
 ·simp only[Nd,List.filter_nil,h]
  rfl
 ·simp only[Nd,List.filter_nil,h]
  rfl
theorem jc(a:List Nat)(i:Nat):(ge a i).length<=i:=by unfold ge;rw[Kr];exact LM (ME _ _) (by rw[LX];exact Ky _)
theorem lZ{i:Nat}(h:i<=8):gg (ge a i):=λb hb=>by unfold ge at hb;obtain⟨c,b,rfl⟩:=LD.mp hb;have:=Lg.mp (Ly.mp b).1;exact⟨c,rfl,by omega⟩
theorem c46(k:Nat)(z:Str)(p:z.length<=8):aC P (k+1) 46 [.str z]=some (.lst ((bi z).map .int)):=by
 refine dP rfl rfl ?_;simp only[d46,entry];walk_at "go";refine eG (xs:=signs z) (n:=true) ?_ (λi g=>∃a,g=[.frz (.str z) true,.own ((ge z.cps.toList i).map .int) true,.frz (.int ((2^i:Nat):Int)) true,a]) ⟨_,rfl⟩ ?_ ?_
 ·walk_at "ev"
 ·rintro i y g b ⟨a,rfl⟩
  have o:i<z.length:=by have:=(Kw.mp b).1;rw[bn]at this;exact this
  obtain⟨c,l,rfl⟩:∃c,z.cps.toList[i]? =some c/\y=.str ⟨#[c]⟩:=by
   unfold signs at b;rw[LA]at b;cases e:z.cps.toList[i]? with
   |none=>rw[e]at b;cases b|some c=>rw[e]at b;exact⟨c,rfl,(LR b).symm⟩
  have m:z.cps.toList.getD i 0=c:=by rw[Kz,l];rfl
  refine⟨_,rfl,?_⟩;have f:=uS z.cps.toList i;rw[m]at f;have d:((ge z.cps.toList i).map PV.int).length<LN:=by rw[Kr];have:=jc z.cps.toList i;omega
  have j:((2^i:Nat):Int)*2=((2^(i+1):Nat):Int):=by rw[Nat.pow_succ];push_cast;rfl
  walk_at "ev";rw[om];cases h:c==120 with
  |true =>rw[h]at f;walk_at "ev";rw[eA rfl d];walk_at "ev";exact⟨_,by rw[f,j,LI];rfl⟩
  |false =>rw[h]at f;walk_at "ev";exact⟨.frz (.str ⟨#[c]⟩) true,by rw[f,j];simp⟩
 ·rintro g ⟨a,rfl⟩
  rw[bn];walk_at "ev";rfl
theorem c47(k:Nat)(a:List aV)(B:List Int)(g:a.length<=100)(b:B.length<=100)(f:∀c∈a,c.length<=1000):aC P (k+1) 47 [.lst (a.map fF),.lst (B.map .int)]=some (.lst ((wl a B a.length).map fF)):=by
 refine run rfl rfl ?_;have e:bj [.lst (a.map fF),.lst (B.map .int)]=some (.lst ((wl a B a.length).map fF)):=by unfold bj;dsimp only;rw[ug,bW];simp only[K2];rw[K5 ⟨g,b,by rw[LL];intro c d;exact LU (f c d)⟩]
 simp only[II,wF,wG,gG,entry];have h:((List.map (λv=>TV.frz v (imm v)) [PV.lst (a.map fF),.lst (B.map .int)]++List.replicate (9-[PV.lst (a.map fF),.lst (B.map .int)].length) TV.un).take 2).map TV.valD=[.lst (a.map fF),.lst (B.map .int)]:=rfl;rw[h,e];rfl
def lx(a:List Str):List Int:=Fi (fC (a.map bi))
theorem c48(k:Nat)(b:List Str)(E:b.length<=8)(r:∀z∈b,z.length<=8):aC P (k+2) 48 [.tup (b.map .str)]=some (.lst ((lx b).map .int)):=by
 refine dP rfl rfl ?_;have v:=bH b;have d:∀i,(∀B∈(b.take i).map bi,gg B):=λi B hB=>by obtain⟨z,m,rfl⟩:=LD.mp hB;exact lZ (r z (M6 m))
 simp only[d48,entry];walk_at "ev";rw[v];refine eG (xs:=b.map PV.str) (n:=true) ?_ (λi q=>∃a,q=[.frz (.tup (b.map .str)) true,.frz (.lst ((fC ((b.take i).map bi)).map fF)) true,a]) ⟨_,rfl⟩ ?_ ?_
 ·walk_at "ev"
 ·rintro i y q j ⟨a,rfl⟩
  obtain⟨z,m,u,rfl⟩:∃z,b[i]? =some z/\z∈b/\y=.str z:=by
   rw[LA]at j;cases e:b[i]? with
   |none=>rw[e]at j;cases j|some z=>rw[e]at j;exact⟨z,rfl,K9 e,(LR j).symm⟩
  obtain⟨l,o⟩:=fi (d i);have A :(fC ((b.take i).map bi)).length<=9:=by rw[l,Kr,Ln];omega
  have C:(bi z).length<=100:=by have:=jc z.cps.toList z.length;have:=r z u;unfold bi;omega
  refine⟨_,rfl,?_⟩;walk_at "ev";rw[c46 k z (r z u)];walk_at "ev";rw[c47 k _ _ (by omega) C (λc hc=>LM (o c hc).len (by decide))];walk_at "ev";refine⟨.frz (.str z) true,?_⟩;rw[Ma,m,LI];show[TV.frz (.tup (b.map .str)) true,.frz (.lst ((wl (fC ((b.take i).map bi)) (bi z) (fC ((b.take i).map bi)).length).map fF)) true,TV.frz (.str z) true]=[_,TV.frz (.lst ((fC ((b.take i).map bi++[bi z])).map fF)) true,_];rw[jQ]
 ·rintro q ⟨a,rfl⟩
  rw[Kr,L8];obtain⟨l,o⟩:=fi (d b.length);rw[L8]at l o;have x:((fC (b.map bi)).map fF).length<=16777216:=by rw[Kr,l,Kr];omega
  walk_at "ev";rw[K5 x];rw[eV (p:=λc=>decide (0<List.length c)) (λc hc=> ?h)]
  case h =>
   have w:aU (c.map λp=>PV.int p.2)=some (c.map (·.2)):=by have:=bW (c.map (·.2));rw[Lc]at this;exact this
   unfold fF;walk_at "ev";rw[Kr]
   by_cases s:0<c.length
   ·have f :(0:Int)<(c.length:Int):=by omega
    simp only[s,f,decide_true,M0];rw[w];rfl
   ·have f :¬(0:Int)<(c.length:Int):=by omega
    simp only[s,f,NS];rfl
  walk_at "ev";unfold lx Fi;rw[Lc];rfl
theorem c58(k:Nat)(a:List Int)(p:Nat):aC P (k+1) 58 [.lst (a.map .int),.int (p:Nat)]=some (.int (a.getD p 0)):=by
 refine dP rfl rfl ?_;simp only[d58,entry];walk_at "ev";simp only[Kr]
 by_cases h:p<a.length
 ·rw[LU (show(p:Int)<(a.length:Nat)by omega)]
  walk_at "ev";rw[zz h];walk_at "ev"
 ·rw[Ld (show¬(p:Int)<(a.length:Nat)by omega)]
  walk_at "ev";rw[AX (by omega)]
theorem c85(k n f:Nat)(hn:n<=1000)(hf:f<=1000):aC P (k+1) 85 [.int (n:Nat),.int (f:Nat)]=some (.int (fl n f:Nat)):=by
 refine dP rfl rfl ?_;simp only[d85,entry];walk_at "ev";refine eG (xs:=(List.range f).map λi=>.int (0+(i:Nat))) (n:=true) ?_ (λi τ=>∃a,τ=[.frz (.int n) true,.frz (.int f) true,.frz (.int (fl n i:Nat)) true,a]) ⟨_,rfl⟩ ?_ ?_
 ·walk_at "ev"
  simp only[kd,bT];rw[K5 ⟨by omega,by omega⟩,L4];rfl
 ·rintro i y τ hy ⟨a,rfl⟩
  obtain⟨hi,rfl⟩:=zB hy;refine⟨_,rfl,?_⟩;walk_at "ev";rw[K5 (by omega)];walk_at "ev";exact⟨_,by rw[vb]⟩
 ·rintro τ ⟨a,rfl⟩
  rw[CH];walk_at "ev"
theorem c86(k n t:Nat)(hn:n<=8):aC P (k+2) 86 [.int (n:Nat),.int (t:Nat)]=some (.int (ch n t:Nat)):=by
 refine dP rfl rfl ?_;simp only[d86,entry];walk_at "ev";rw[LU (show(0:Int)<=t by omega)];walk_at "ev"
 by_cases h:t<=n
 ·rw[LU (show(t:Int)<=n by omega)]
  walk_at "ev";have hp:=t7 t t (Ky _);have hs:=fl8 t (by omega);rw[c85 k n t (by omega) (by omega)];walk_at "ev";rw[c85 k t t (by omega) (by omega)];walk_at "ev";rw[K5 ⟨by omega,by omega⟩];walk_at "ev";rw[HS h]
 ·rw[Ld (show¬(t:Int)<=n by omega)]
  walk_at "ev";rw[oj n t (by omega)];rfl
theorem c92(k:Nat)(x:Int)(t:Nat):aC P (k+1) 92 [.int x,.int (t:Nat)]=some (.int (FW t*x)):=by
 refine dP rfl rfl ?_;simp only[d92,entry];walk_at "ev";unfold FW
 by_cases h:t%2=0
 ·rw[LU (show(t:Int)%2=0 by omega),K5 h]
  walk_at "ev";rw[Int.one_mul]
 ·rw[Ld (show¬(t:Int)%2=0 by omega),LC h]
  walk_at "ev";rw[Int.neg_mul,Int.one_mul]
def Bd(m:Nat)(c:aV):Prop:=∀p∈c,p.2.natAbs<=m
theorem He{k n:Int}{m:Nat}(h:Bd m c):Bd (m+n.natAbs) (xi c k n):=by
 have g:((bB c k).getD 0).natAbs<=m:=by
  unfold bB;cases e:c.find? λp=>decide (p.1=k)with
  |none=>exact LY _|some p=>exact h p (List.mem_of_find?_eq_some e)
 unfold xi dF
 split<;>intro p a
 ·obtain⟨q,b,rfl⟩:=LD.mp a
  have:=h q b
  split<;>(try dsimp only)<;>omega
 ·rcases LP.mp a with a|a
  ·exact Nat.le_add_right_of_le (h p a)
  ·rw[LF.mp a]
   omega
theorem ou{a:Type}{f:aV->a->aV}{d:Nat}:∀{l:List a}{c:aV}{m:Nat},(∀b∈l,∀m c,Bd m c->Bd (m+d) (f c b))->Bd m c->Bd (m+l.length*d) (l.foldl f c)
 |[],c,m,_,h=>by simpa using h|b::l,c,m,hf,h=>by
  have:=ou (λb hb=>hf b (Kx _ hb)) (hf b K6 m c h)
  rwa [Nat.add_assoc,Nat.add_comm d,<-NA]at this
theorem Bd.le{m n:Nat}(h:Bd m c)(a:m<=n):Bd n c:=λp hp=>LM (h p hp) a
theorem KY{B:List Int}{m:Nat}(hB:B.length<=8)(hl:lev.length<=256)(hm:Bd M lev)(h:Bd m c):Bd (m+2048*M) (upT B c lev):=by
 refine(ou (d:=8*M) (λp hp m c h=> ?_) h).le (No (LM (M5 _ hl) (by omega)) _);refine(ou (λb _ m c h=> ?_) h).le (No (M5 _ hB) _);unfold cB
 split;exact(He h).le (No (hm p hp) _);exact h.le (Nat.le_add_right _ _)
theorem Ek{b:List aV}{B:List Int}{M:Nat}(o:B.length<=8)(f:∀c∈b,c.length<=256)(h:∀c∈b,Bd M c):∀i,∀c∈wl b B i,Bd (M+i*(2048*M)) c
 |0,c,a=>by
  rcases LP.mp a with a|a
  ·exact(h c a).le (Nat.le_add_right _ _)
  ·rw[LF.mp a]
   nofun
 |i+1,c,a=>by
  have n:=Ek o f h i;have z:∀{m:Nat}{l:List aV}j,(∀c∈l,Bd m c)->Bd m (l.getD j []):=λ{m l} j g=>by
   rw[Kz];cases e:l[j]? with
   |none=>nofun|some d=>exact g d (K9 e)
  rw[NA,<-Nat.add_assoc]
  rcases Nz a with a|rfl
  ·exact(n c a).le (Nat.le_add_right _ _)
  ·refine KY o ?_ (z i h) (z (i+1) n)
   rw[Kz];cases e:b[i]? with
   |none=>exact LY _|some d=>exact f d (K9 e)
theorem C3:(∀B∈Bs,gg B/\B.length<=8)->Bs.length<=8->∀c∈fC Bs,Bd (2^(15*Bs.length)) c:=by
 refine fU (P:=λBs=>(∀B∈Bs,gg B/\B.length<=8)->Bs.length<=8->∀c∈fC Bs,Bd (2^(15*Bs.length)) c) (λ_ _ c hc p hp=> ?_) (λl B ih h h8 c hc=> ?_) Bs
 ·cases LF.mp (show c∈[[(0,1)]]from hc)
  cases LF.mp hp
  decide
 ·rw[jQ]at hc
  have hl:l.length<=7:=by simpa using h8
  obtain⟨g1,g2⟩:=fi λB hB=>(h B (LQ _ hB)).1;refine(Ek (h B (by simp)).2 (λc hc=>(g2 c hc).len) (ih (λB hB=>h B (LQ _ hB)) (by omega)) _ c hc).le ?_;rw[g1,K7,MW,Nat.mul_succ,Nat.pow_add];have:=M5 (2048*2^(15*l.length)) (show l.length+1<=8 by omega);omega
theorem uq{m:Nat}:∀{c:aV},Bd m c->(yX c).natAbs<=c.length*m
 |[],_=>LY _|p::c,h=>by have a:=uq λq hq=>h q (Kx _ hq);have b:=h p K6;have e:yX (p::c)=p.2+yX c:=NO;rw[e,LK,NA];omega
theorem uy(i:a.length<=8)(e:∀z∈a,z.length<=8):(lx a).length<=9/\∀x∈lx a,x.natAbs<=2^128:=by
 have g:∀B∈a.map bi,gg B/\B.length<=8:=λB hB=>by obtain⟨z,f,rfl⟩:=LD.mp hB;exact⟨lZ (e z f),LM (jc _ _) (e z f)⟩
 obtain⟨j,h⟩:=fi λB hB=>(g B hB).1;have d:(a.map bi).length<=8:=by simpa using i
 refine⟨?_,λx hx=> ?_⟩
 ·unfold lx Fi
  rw[Kr];exact LM (ME _ _) (by omega)
 ·obtain⟨c,b,rfl⟩:=LD.mp hx
  have b:=(Ly.mp b).1;refine LM (uq (C3 g d c b)) (LM (NT (h c b).len (MY (by decide) (Nat.mul_le_mul_left 15 d))) (by decide))
def DX(r:Nat->Int)(m n j:Nat):Int:=wP (λt=>FW t*((ch (j+t) j:Int)*(r (j+t)*(fl (n-(j+t)) (m-(j+t)):Int)))) (m+1-j)
theorem c98(k m n j:Nat)(u:m<=n)(v:n<=8)(w:j<=m)(c:List Int):aC P (k+3) 98 [.lst (c.map .int),.int (m:Nat),.int (n:Nat),.int (j:Nat)]=some (.int (DX (λs=>c.getD s 0) m n j)):=by
 refine dP rfl rfl ?_;simp only[d98,entry];walk_at "ev"
 refine eG (xs:=(List.range (m+1-j)).map λi=>.int ((j:Int)+(i:Nat))) (n:=true) ?_ (λi d=>∃a b,d=[.frz (.lst (c.map .int)) false,.frz (.int (m:Nat)) true,.frz (.int (n:Nat)) true,.frz (.int (j:Nat)) true, .frz (.int (wP (λt=>FW t*((ch (j+t) j:Int)*(c.getD (j+t) 0*(fl (n-(j+t)) (m-(j+t)):Int)))) i)) true,a,b]) ⟨_,_,rfl⟩ ?_ ?_
 ·walk_at "ev"
  simp only[kd,bT];rw[K5 ⟨by omega,by omega,by omega,by omega⟩,show((m:Int)+1-(j:Int)).toNat=m+1-j by omega];rfl
 ·rintro i y d g ⟨a,b,rfl⟩
  obtain⟨r,rfl⟩:=nY g;refine⟨_,rfl,?_⟩;have l:(j:Int)+(i:Nat)=((j+i:Nat):Int):=by omega
  have e:(n:Int)-((j+i:Nat):Int)=((n-(j+i):Nat):Int):=by omega
  have h:(m:Int)-((j+i:Nat):Int)=((m-(j+i):Nat):Int):=by omega
  have o:((j+i:Nat):Int)-(j:Nat)=(i:Int):=by omega
  have b1:=vo (j+i) j;have q:2^(j+i)<=2^8:=MY (by decide) (by omega);have f:=Ae (m-(j+i)) (n-(j+i));have p:fl (n-(j+i)) (m-(j+i))<=8^8:=LM f (LM (Nat.pow_le_pow_left (by omega) _) (MY (by decide) (by omega)));walk_at "ev";rw[l,c58 (k+1) c (j+i)];walk_at "ev";rw[e,h,c85 (k+1) (n-(j+i)) (m-(j+i)) (by omega) (by omega)];walk_at "ev";rw[K5 (by omega)];walk_at "ev";rw[c86 k (j+i) j (by omega)];walk_at "ev";rw[K5 (by omega)];walk_at "ev";rw[o,c92 (k+1) _ i];walk_at "ev";rw[vt rfl];walk_at "ev";exact⟨_,_,rfl⟩
 ·rintro d ⟨a,b,rfl⟩
  rw[Kr,LX];walk_at "ev";rfl
def mq(a:List Str)(w:Nat):List Int:=(List.range (min a.length w+1)).map (DX (λs=>(lx a).getD s 0) (min a.length w) (max a.length w))
theorem c99(k:Nat)(a:List Str)(w:Nat)(f:Wd a w)(l:a≠[])(n:a.length<=8)(m:w<=8):aC P (k+4) 99 [.tup (a.map .str)]=some (.lst ((mq a w).map .int)):=by
 refine dP rfl rfl ?_;have e:∀z∈a,z.length<=8:=λz e=>by rw[f z e];exact m
 obtain⟨d,b⟩:∃z,a[0]? =some z:=by
  cases a with
  |nil=>exact absurd rfl l|cons z r=>exact⟨z,rfl⟩
 have c:=f d (K9 b);have g:dH (a.map PV.str) 0=some (.str d):=E1 (i:=0) b;have p:(if(w:Int)<(a.length:Int)then(w:Int)else(a.length:Int))=((min a.length w:Nat):Int):=by split<;>omega
 have o:(if(w:Int)>(a.length:Int)then(w:Int)else(a.length:Int))=((max a.length w:Nat):Int):=by split<;>omega
 simp only[d99,entry];walk_at "ev";rw[g];walk_at "ev";rw[len_str,K5 (by rw[c];show w<=16777216;omega)];walk_at "ev";simp only[Kr,c];rw[p];walk_at "ev";rw[g];walk_at "ev";rw[len_str,K5 (by rw[c];show w<=16777216;omega)];walk_at "ev";simp only[c];rw[o];walk_at "ev";rw[c48 (k+1) a n e];walk_at "ev";simp only[kd,bT];rw[K5 ⟨by omega,by omega⟩,show(((min a.length w:Nat):Int)+1).toNat=min a.length w+1 by omega];walk_at "ev";rw[K5 (by rw[Kr,LX];omega)];rw[bC (G:=λj=>PV.int (DX (λs=>(lx a).getD s 0) (min a.length w) (max a.length w) j)) (λj h=>by have h:=Lg.mp h;walk_at "ev";rw[Int.zero_add,c98 k (min a.length w) (max a.length w) j (by omega) (by omega) (by omega)];walk_at "ev")]
 walk_at "ev";unfold mq;rw[Lc];rfl
theorem pq{f:Nat->Int}{m:Nat}:∀n,(∀t,t<n->(f t).natAbs<=m)->(wP f n).natAbs<=n*m
 |0,_=>LY _|n+1,h=>by have a:=pq n λt ht=>h t (by omega);have b:=h n (by omega);show(wP f n+f n).natAbs<=_;rw[NA];omega
theorem DW(f:a.length<=8)(g:w<=8)(c:∀z∈a,z.length<=8):(mq a w).length<=9/\∀x∈mq a w,x.natAbs<2^200:=by
 obtain⟨_,d⟩:=uy f c;unfold mq;refine⟨by simp;omega,λx hx=> ?_⟩;obtain⟨j,b,rfl⟩:=LD.mp hx;refine MS (pq (m:=2^8*(2^128*8^8)) _ λt ht=> ?_) (MS (M5 _ (show min a.length w+1-j<=9 by omega)) (by decide));have e:∀y:Int,(FW t*y).natAbs=y.natAbs:=λy=>by unfold FW;split<;>omega
 rw[e,Int.natAbs_mul,Int.natAbs_mul,Int.natAbs_natCast,Int.natAbs_natCast];refine NT (LM (vo _ _) (MY (by decide) (by omega))) (NT ?_ (LM (Ae _ _) (LM (Nat.pow_le_pow_left (by omega) _) (MY (by decide) (by omega)))));show((lx a).getD (j+t) 0).natAbs<=_;rw[Kz];cases e:(lx a)[j+t]? with
 |none=>exact LY _|some y=>exact d y (K9 e)
section
open PySem.Spec PyProof.Rows
abbrev kl:List Str:=["choices","holders","row","tried"]
theorem JD:ak N110 kl (aI yz):=⟨rfl,rfl,rfl,by decide +kernel,rfl,by decide +kernel,by decide +kernel⟩
def i9(T:List Int):List (L2.ah×V):=T.map λc=>(Sum.inl c,V.bl true)
theorem Aq(T:List Int)(c:Int):(el (i9 T) (Sum.inl c)).isSome=T.contains c:=by
 unfold el i9
 induction T with
 |nil=>rfl|cons d T f =>
  rw[K8,Lu,MU]
  by_cases e:d=c;simp[e]
  ·have a :¬((Sum.inl d:L2.ah)=Sum.inl c):=λz=>e (Sum.inl.inj z)
   have b:(c==d)=false:=by simpa using λz:c=d=>e z.symm
   simp only[a,NS,b,Bool.false_or];exact f
section
variable{n:Nat}{rec:aV->Int->List Int->Bool×aV×List Int}{row c r:Int}{cs:List Int}{H H' :aV}{T T' :List Int}
theorem FA(h:T.contains c=true):iK rec row (c::cs) H T=iK rec row cs H T:=by show(if T.contains c=true then _ else _)=_;rw[K5 h]
theorem yT(h:T.contains c=false)(e:bB H c=none):iK rec row (c::cs) H T=(true,dF H c row,T++[c]):=by unfold iK;rw[LC (by rw[h];exact K0),e]
theorem Bq(h:T.contains c=false)(e:bB H c=some r)(k:rec H r (T++[c])=(true,H',T')):iK rec row (c::cs) H T=(true,dF H' c row,T'):=by unfold iK;rw[LC (by rw[h];exact K0),e];dsimp only;rw[k]
theorem yS(h:T.contains c=false)(e:bB H c=some r)(k:rec H r (T++[c])=(false,H',T')):iK rec row (c::cs) H T=iK rec row cs H' T' :=by show(if T.contains c=true then _ else _)=_;rw[LC (by rw[h];exact K0),e];dsimp only;rw[k]
set_option tactic.hygienic true in
theorem nM(a:∀H r T,(rec H r T).2.1.length<=H.length+n):∀{d:List Int}{H:aV}{T:List Int},(∀H r T f j,rec H r T=(false,f,j)->f =H)->(iK rec row d H T).2.1.length<=H.length+(n+1)
 |[],H,T,_=>by show H.length<=_;omega|c::d,H,T,hf=>by
  unfold iK
  split;exact nM a hf
  ·split
   ·have:=ki H c row
    omega
   ·rename_i r e
    have h:=a H r (T++[c]);cases g:rec H r (T++[c])with
    |mk b w =>
     obtain⟨i,l⟩:=w;rw[g]at h;cases b with
     |true =>have:=ki i c row;omega
     |false =>have m:=hf H r (T++[c]) i l g;subst m;exact nM a hf
theorem sZ{C:List (List Int)}:∀{n:Nat}{H:aV}{row:Int}{T:List Int},(tk C n H row T).2.1.length<=H.length+n
 | 0,H,row,T=>Ky _
 | n+1,H,row,T=>nM (fun H r T=>sZ) (fun H r T H' T' h=>iJ h)
theorem tk8(d:T.Nodup)(e:∀c∈T,0<=c/\c<8):T.length<=8:=gu (U:=[0,1,2,3,4,5,6,7]) d λx hx=>by obtain⟨a,b⟩:=e x hx;simp only[LB];omega
end
theorem Ap(h:T.contains c=false):dS (i9 T) (Sum.inl c) (V.bl true)=i9 (T++[c]):=by
 unfold dS;rw[LC]
 ·unfold i9
  rw[LI];rfl
 ·intro z
  rw[MR]at z;obtain⟨q,a,e⟩:=z;obtain⟨d,b,rfl⟩:=LD.mp a;have e:=LJ e;have:=Sum.inl.inj e;subst this;rw[Lh.mpr b]at h;cases h
def dQ(a b:Addr)(H c :Hp):Prop:=∀x o,x≠a->x≠b->H x=some o->c x=some o
theorem dQ.trans(s:dQ a b H c)(t:dQ a b c d):dQ a b H d:=λx o n m e=>t x o n m (s x o n m e)
theorem dQ.refl:dQ a b H H:=λ_ _ _ _ e=>e
def Kf(K:W.Frag)(a b:Addr)(H:Hp)(p:Addr)(d:List V):Prop:=∀c,dQ a b H c ->bJ K c p d
theorem Kf.to{K:W.Frag}(s:dQ a b H c)(h:Kf K a b H p d):Kf K a b c p d:=λH2 s2=>h H2 (s.trans s2)
def EE(K:W.Frag)(H:Hp)(a b:Addr)(us:List V)(C:List (List Int)):Prop:=us.length=C.length/\∀(i:Nat)(c:List Int),C[i]? =some c->∃p,us[i]? =some (.ref p)/\Kf K a b H p (c.map V.int)
theorem EE.to{K:W.Frag}{us:List V}(s:dQ a b H c)(h:EE K H a b us C):EE K c a b us C := ⟨h.1,λi ns e=>by obtain⟨p,d,f⟩:=h.2 i ns e;exact⟨p,d,f.to s⟩⟩
def spT(K:W.Frag)(n:Nat):Sp:=fun vs H Q _=>∃(p0 ph pt:Addr)(us:List V)(C:List (List Int))(Ht:aV)(row:Int)(T:List Int),vs=[.ref p0,.ref ph,.int row,.ref pt]/\Kf K ph pt H p0 us/\EE K H ph pt us C/\H ph=some (.dK (bI Ht))/\H pt=some (.dK (i9 T)) /\
 ph≠pt/\(0<=row/\row<C.length)/\C.length<=8/\(∀ns∈C,ns.length<=100)/\(∀r,∀c∈gc C r,0<=c/\c<8)/\(∀q∈Ht,0<=q.2/\q.2<C.length)/\Ht.length+n<=1000/\T.Nodup/\(∀c∈T,0<=c/\c<8)/\8<n+1+T.length /\
 ∀H',dQ ph pt H H' ->H' ph=some (.dK (bI (tk C (n+1) Ht row T).2.1))->H' pt=some (.dK (i9 (tk C (n+1) Ht row T).2.2))->Q (.bl (tk C (n+1) Ht row T).1) H'
def Iu(K:W.Frag):Nat->Sp
 |0=>λ_ _ _ _=>False|n+1=>spT K n
set_option tactic.hygienic true in
theorem zi{K:W.Frag}(D:eh K mg "takes_column" yz kl f fd)(n:Nat)(F:aq p w K mg base dI n f fd kl (Iu K n)):aq p w K mg base dI (n+1) f fd kl (spT K n):=by
 refine D.fn.ok JD (fun vs H Q E h=> ?_) (fun cdv A outer s0 H vs Q E hr h=> ?_)
 ·obtain⟨p0,ph,pt,us,C,Ht,row,T,rfl,_⟩:=h
  rfl
 obtain⟨p0,ph,pt,us,C,Ht,row,T,rfl,sq0,ca,hph,hpt,n3,hrow,c8,cl,cc,hh,hz,nd0,bd0,hn,q⟩:=h;have nd:=JD.nd;have hu:=Ec hr;have hs:sizeLine=16777216:=Lp
 refine⟨_,aF (du Lq rfl (fg (ku eS (pv 0) (pv 2) (fun _ _=>rfl))) (av (i:=4) nd rfl (Or.inl rfl))
   (aO (gW (nz (mV hu (pv 4) (pv 3)))
    (aF (kG hu (pv 3) (pv 4) vE rfl)
    (aO (gW (PW.pt (zE (nz (mV hu (pv 4) (pv 1))) (tI (nh (ag F hr rfl D.nm D.fn.kp D.bd .nil bZ (aB (pv 0) (aB (pv 1) (aB (vC hu (pv 1) (pv 4) (fun _ _=>rfl)) (aB (pv 3) aH)))))))))
     (aF (kG hu (pv 1) (pv 4) (pv 2) rfl) (aO (bc vE))) bF))) bF)))
  (aO (bc vE)),?_⟩
 obtain⟨cs,hcs⟩:∃cs,C[row.toNat]? =some cs:=⟨_,Kv (by omega)⟩;have ech:gc C row=cs:=by unfold gc;rw[Kz,hcs];rfl
 obtain⟨pr,hpr,sqr⟩:=ca.2 _ _ hcs;have hat:dH us row=some (.ref pr):=by
  have:=bh hpr;rw[show((row.toNat:Nat):Int)=row by omega]at this;exact this
 refine⟨_,rfl,_,rfl,p0,us,_,.ref pr,rfl,rfl,sq0 _ dQ.refl,hat,?_⟩;have etk:tk C (n+1) Ht row T=iK (tk C n) row cs Ht T:=by
  show iK (tk C n) row (gc C row) Ht T=_;rw[ech]
 rw[etk]at q;have hc8:∀c∈cs,0<=c/\c<8:=fun c hc=>cc row c (by rw[ech];exact hc);refine⟨pr,rfl,⟨_,sqr _ dQ.refl⟩,rE (xs:=cs.map V.int) (fun i σ G=>∃Ti a,iK (tk C n) row cs Ht T=iK (tk C n) row (cs.drop i) Ht Ti/\Ti.Nodup/\(∀c∈Ti,0<=c/\c<8)/\T.length<=Ti.length/\dQ ph pt H G/\G ph=some (.dK (bI Ht))/\G pt=some (.dK (i9 Ti))/\σ=[some (.ref p0),some (.ref ph),some (.int row),some (.ref pt),a]) ⟨T,none,rfl,nd0,bd0,Ky _,dQ.refl,hph,hpt,rfl⟩ ?_ ?_ ?_⟩
 ·rintro i σ G _ ⟨Ti,a,_,_,_,_,st,_,_,_⟩
  exact sqr _ st
 ·rintro i x σ G hx ⟨Ti,a,e0,ti1,ti2,ti3,st,gh,gt,rfl⟩
  obtain⟨c,hci,rfl⟩:∃c,cs[i]? =some c/\x=.int c:=by
   rw[LA]at hx;cases e:cs[i]? with
   | none=>rw[e]at hx;cases hx
   | some c=>rw[e]at hx;cases hx;exact⟨c,rfl,rfl⟩
  have hd:cs.drop i=c::cs.drop (i+1):=by
   obtain⟨z1,z2⟩:=Kw.mp hci;rw[NJ z1,z2]
  obtain⟨b0,b8⟩:=hc8 c (K9 hci);refine⟨_,rfl,_,rfl,pt,_,rfl,gR.k (k:=Sum.inl c) gt,?_⟩;refine⟨_,rfl,?_⟩;rw[Aq];cases hT:Ti.contains c with
  | true =>
   refine ij ?_;refine⟨Ti,_,?_,ti1,ti2,ti3,st,gh,gt,rfl⟩;rw[e0,hd,FA hT]
  | false =>
   refine gP ?_;have tl:Ti.length<=8:=tk8 ti1 ti2;refine⟨_,rfl,_,rfl,pt,_,rfl,.inl ⟨_,Sum.inl c,gt,rfl,by unfold i9;rw[Kr,hs];omega,rfl⟩,?_⟩;rw[Ap hT];obtain⟨G1,hG1⟩:∃G1,G1=L2.upd G pt (.dK (i9 (Ti++[c]))):=⟨_,rfl⟩;rw[<- hG1];have g1t:G1 pt=some (.dK (i9 (Ti++[c]))):=by rw[hG1,aD]
   have g1h:G1 ph=some (.dK (bI Ht)):=by rw[hG1,aA n3];exact gh
   have st1:dQ ph pt H G1:=fun x o a1 a2 e=>by rw[hG1,aA a2];exact st x o a1 a2 e
   refine⟨_,rfl,_,rfl,ph,_,rfl,gR.k (k:=Sum.inl c) g1h,?_⟩;rw[oa];cases hg:bB Ht c with
   | none =>
    refine⟨_,rfl,gP ?_⟩;refine gP ?_;refine⟨_,rfl,_,rfl,_,rfl,ph,_,rfl,.inl ⟨_,Sum.inl c,g1h,rfl,by unfold bI;rw[Kr,hs];omega,rfl⟩,?_⟩;rw[oZ];have e1:iK (tk C n) row cs Ht T=(true,dF Ht c row,Ti++[c]):=by rw[e0,hd,yT hT hg]
    rw[e1]at q;exact q _ (fun x o a1 a2 e=>by rw[aA a1];exact st1 x o a1 a2 e) aD (by rw[aA (MC n3)];exact g1t)
   | some r =>
    refine⟨_,rfl,ij ?_⟩;obtain⟨r0,r1⟩:=hh _ (eD hg);have nd1:(Ti++[c]).Nodup:=by
     rw[MO];refine⟨ti1,by simp,fun a ha x hx z=> ?_⟩;rw[LF]at hx;subst hx z;rw[Lh.mpr ha]at hT;cases hT
    have bd1:∀d∈Ti++[c],0<=d/\d<8:=fun d hd=>by
     rcases LP.mp hd with z|z
     ·exact ti2 d z
     ·rw[LF.mp z]
      exact⟨b0,b8⟩
    have tl1:=tk8 nd1 bd1;rw[K7,MW]at tl1;cases n with
    | zero=>omega
    | succ n =>
    refine⟨_,rfl,_,rfl,_,rfl,_,rfl,ph,.int r,rfl,?_,?_⟩
    ·have:=gR.k (k:=Sum.inl c) g1h
     rw[oa,hg]at this;exact this
    ·refine⟨_,rfl,?_⟩
     refine⟨p0,ph,pt,us,C,Ht,r,Ti++[c],rfl,sq0.to st1,ca.to st1,g1h,g1t,n3,⟨r0,r1⟩,c8,cl,cc,hh,by omega,nd1,bd1,by rw[K7,MW];omega,fun G2 s2 g2h g2t=> ?_⟩;have hlen:=sZ (C:=C) (n:=n+1) (H:=Ht) (row:=r) (T:=Ti++[c]);cases hw:tk C (n+1) Ht r (Ti++[c])with
     | mk b w =>
      obtain⟨H2,T2⟩:=w;rw[hw]at g2h g2t hlen;have g2h:G2 ph=some (.dK (bI H2)):=g2h;have g2t:G2 pt=some (.dK (i9 T2)):=g2t;have hlen:H2.length<=Ht.length+(n+1):=hlen;refine⟨b,rfl,?_⟩;cases b with
      | true =>
       refine gP ?_;refine⟨_,rfl,_,rfl,_,rfl,ph,_,rfl,.inl ⟨_,Sum.inl c,g2h,rfl,by unfold bI;rw[Kr,hs];omega,rfl⟩,?_⟩;rw[oZ];have e1:iK (tk C (n+1)) row cs Ht T=(true,dF H2 c row,T2):=by rw[e0,hd,Bq hT hg hw]
       rw[e1]at q;exact q _ (fun x o a1 a2 e=>by rw[aA a1];exact s2 x o a1 a2 (st1 x o a1 a2 e)) aD (by rw[aA (MC n3)];exact g2t)
      | false =>
       refine ij ?_;have e2:=iJ hw;subst e2;obtain⟨_,j2,j3,j4,_,_⟩:=yR cc nd1 bd1 (by rw[K7,MW];omega) hw;refine⟨T2,_,?_,j3,j4,?_,st1.trans s2,g2h,g2t,rfl⟩
       ·rw[e0,hd,yS hT hg hw]
       ·exact LM ti3 (gu ti1 fun x hx=>j2 (LQ _ hx))
 ·rintro σ G ⟨Ti,a,e0,ti1,ti2,ti3,st,gh,gt,rfl⟩
  rw[Kr,List.drop_length]at e0;rw[e0]at q;exact q G st gh gt
theorem nH{K:W.Frag}{a:Str->Option Value}{p:Program}{w:World}{base:Heap}{f:Addr}{b:FuncData}(D:eh K a "takes_column" yz kl f b):∀n,aq p w K a base dI n f b kl (Iu K n)
 |0=>⟨λvs H Q E h=>h.elim,λA outer s H args us vs Q E _ _ _ _ h=>h.elim⟩|n+1=>zi D n (nH D n)
end
section
open PySem.Spec PyProof.Rows
theorem JE:ak N111 ["choices"] (aI Fc):=⟨rfl,rfl,rfl,by decide +kernel,rfl,by decide +kernel,by decide +kernel⟩
theorem lv11{k:Nat}{v:PV}(h:aC P k 20011 [.non]=some v):12<=k:=by
 by_cases a:12<=k;exact a
 ·have:k=0\/k=1\/k=2\/k=3\/k=4\/k=5\/k=6\/k=7\/k=8\/k=9\/k=10\/k=11:=by omega
  have e:∀k,k<12->(aC P k 20011 [.non]).isNone=true:=by decide +kernel
  have:=e k (by omega);rw[h]at this;cases this
set_option tactic.hygienic true in
theorem qz{k:Nat}(h:aC P (k+1) 111 b=some r):12<=k/\∃C,b=[.lst (mD C)]/\iC C=true/\r=fF (hd C C.length):=by
 rw[eX]at h;have l:P 111=some Do:=rfl;rw[l,K2]at h
 split at h
 case isFalse=>cases h
 rename_i c;have c:=c
 match b,c with
 |[v],_ =>
  simp only[Do,wF,wG,gI,gG,cQ,cR,pU,pV,entry,K2,Lj,K8,MJ,bT]at h;cases f:aC P k 20011 [.non]with
  |none=>rw[f]at h;cases h|some x =>
   rw[f]at h;refine⟨lv11 f,?_⟩;simp only[Lj,K2,fe]at h;have e:(([TV.frz v (imm v)]++List.replicate (3-[v].length) TV.un).take 1).map TV.valD=[v]:=rfl;rw[e]at h;cases a:rA [v]with
   |none=>rw[a]at h;cases h|some m =>
    rw[a]at h;cases h;unfold rA at a
    split at a
    case h_2=>cases a
    rename_i i g;cases g;cases d:jt i with
    |none=>rw[d]at a;cases a|some C =>
     rw[d]at a;simp only[K2]at a
     split at a
     ·rename_i j
      cases a;exact⟨C,by rw[m9 d],j,rfl⟩
     ·cases a
theorem Eg{K:W.Frag}{f:Hp}{n:Bool}{H:Hp}:∀{C:List (List Int)}{us:List V},aJ K f n (mD C) H us->us.length=C.length/\∀(i:Nat)(d:List Int),C[i]? =some d->∃p,us[i]? =some (.ref p)/\bJ K H p (d.map V.int)
 |[],us,h=>by have h:aJ K f n [] H us:=h;obtain rfl:=h;exact⟨rfl,λi d e=>by simp at e⟩
 |c::C,us,h=>by
  obtain⟨u,r,rfl,a,b⟩:=h;obtain⟨q,g⟩:=Eg b;refine⟨by rw[LK,LK,q],λi d e=> ?_⟩;cases i with
  |zero =>
   have e:c=d:=by simpa using e
   subst e;obtain⟨p,o,rfl,_,l,j⟩:=Rp.lst.mp a;have:=aJ.ints.mp j;subst this;exact⟨p,rfl,l⟩
  |succ i =>obtain⟨p,m,s⟩:=g i d (by simpa using e);exact⟨p,by simpa using m,s⟩
set_option tactic.hygienic true in
theorem oV{C:List (List Int)}:∀k:Nat,(hd C k).length<=9*k
 | 0=>Ky _
 | k+1=>by
  have h1:=oV (C:=C) k;have h2:=sZ (C:=C) (n:=9) (H:=hd C k) (row:=(k:Nat)) (T:=[]);show(tk C 9 (hd C k) (k:Nat) []).2.1.length<=_;omega
theorem Db{K:W.Frag}(hle:mg "len"=none)(hra:mg "range"=none)(DC:eh K mg "takes_column" yz kl fc fdc)(D:eh K mg "holders_of" Fc ["choices"] f fd)(p:Program)(w:World)(base:Heap)(k:Nat)
  (_:∀y g,F.lookup y=some g->∃b gd qs,mg y=some (.ref b)/\W.keepIn K (.ref b)=true/\Binds K gd qs []/\aq p w K mg base dI k b gd qs (kB K (aC P k g))):aq p w K mg base dI (k+1) f fd ["choices"] (kB K (aC P (k+1) 111)):=by
 refine D.fn.ok JE (λvs H Q E h=> ?_) (λcdv A outer s H vs Q E hr h=> ?_)
 ·obtain⟨pvs,r,h1,h2,_⟩:=h
  rw[<- h1.len];obtain⟨_,C,e,_⟩:=qz h2;rw[e];rfl
 obtain⟨pvs,r,h1,h2,q⟩:=h;obtain⟨hk,C,rfl,hg,rfl⟩:=qz h2;obtain⟨c8,cl,cc⟩:=iB hg;have FC:=(nH (p:=p) (w:=w) (base:=base) DC 9).mono (k:=k) (by omega);have nd:=JE.nd;obtain⟨u1,_,rfl,r1,h1⟩:=h1;obtain rfl:=h1;obtain⟨p0,us,rfl,_,sq0,rl⟩:=Rp.lst.mp r1;obtain⟨ul,ua⟩:=Eg (rl.mono bR)
 refine⟨_,aF (ao (i:=1) nd rfl (Or.inl rfl) iU) (aF (du Lq rfl (cD rfl hra (aB (bQ dW rfl hle M4 (aB (pv 0) aH)) aH)) (av (i:=2) nd rfl (Or.inl rfl)) (aO (eP (ag FC hr rfl DC.nm DC.fn.kp DC.bd .nil bZ (aB (pv 0) (aB (pv 1) (aB (pv 2) (aB iU aH)))))))) (aO (bc (pv 1)))),?_⟩
 intro ph hph;obtain⟨H1,hH1⟩:∃H1,H1=L2.upd H ph (.dK []):=⟨_,rfl⟩;have s1:aE H H1:=by rw[hH1];exact aM hph _
 have h1p:H1 ph=some (.dK (bI (hd C 0))):=by rw[hH1,aD];rfl
 rw[<- hH1];refine⟨_,rfl,p0,us,rfl,.inl (s1.seq sq0),((us.length:Nat):Int),rfl,by omega,by rw[ul];omega,?_⟩;refine eF (lo:=0) (λi σ G=>∃a,σ=[some (.ref p0),some (.ref ph),a]/\aE H G/\G ph=some (.dK (bI (hd C i)))) ⟨_,rfl,s1,h1p⟩ ?_ ?_
 ·rintro i σ G hi ⟨a,rfl,sG,gh⟩
  have hi:i<C.length:=by rw[<- ul];simpa using hi
  have e0:((0:Int)+(i:Nat))=((i:Nat):Int):=by omega
  rw[e0];refine⟨_,rfl,_,rfl,_,rfl,λpt hpt=> ?_⟩;obtain⟨G1,hG1⟩:∃G1,G1=L2.upd G pt (.dK []):=⟨_,rfl⟩;have sg1:aE G G1:=by rw[hG1];exact aM hpt _
  have g1t:G1 pt=some (.dK (i9 [])):=by rw[hG1,aD];rfl
  have npt:H pt=none:=sG.free hpt;have nn:ph≠pt:=λz=>by rw[<- z,gh]at hpt;cases hpt
  rw[<- hG1];have key:∀H',dQ ph pt G1 H' ->aE H H' :=λH' st x o e=>st x o (λz=>by rw[z,hph]at e;cases e) (λz=>by rw[z,npt]at e;cases e) (sg1 _ _ (sG _ _ e));have ok:=rB cc i;have hl:=oV (C:=C) i;refine⟨p0,ph,pt,us,C,hd C i,(i:Nat),[],rfl,λH' st=>(key H' st).seq sq0,⟨ul,λj ns e=> ?_⟩,sg1 _ _ gh,g1t,nn,⟨by omega,by omega⟩,c8,cl,cc,λx hx=> ?_,(show(hd C i).length+8<=1000 by omega),.nil,(λc hc=>nomatch hc),(by decide),λH' st e1 e2=> ?_⟩
  ·obtain⟨pj,w1,w2⟩:=ua j ns e
   exact⟨pj,w1,λH' st=>(key H' st).seq w2⟩
  ·have:=ok.rows _ (LD.mpr ⟨x,hx,rfl⟩)
   omega
  ·exact⟨_,rfl,key H' st,e1⟩
 ·rintro σ G ⟨a,rfl,sG,gh⟩
  have e:((us.length:Nat):Int).toNat=C.length:=by omega
  rw[e]at gh;exact⟨_,rfl,q _ _ sG (mS hph gh)⟩
end
theorem k8(x:Int)(l:List Int):bU .NotIn (.int x) (.lst (l.map .int))=some (!l.contains x):=by
 show(vV _ _).map _=_;unfold vV;rw[K5 ⟨rfl,by rw[NH,LL];intro y _;rfl⟩,Lj,List.any_map]
 congr 2
 rw[L7,MR,Lh]
 constructor
 ·rintro⟨y,a,e⟩
  rw[<- LJ e];exact a
 ·intro a
  exact⟨x,a,by show decide (x=x)=true;exact LU rfl⟩
theorem tF{n:Nat}{m:Bool}(h:n<=1000):kd [.frz (.int (n:Nat)) m]=some ((List.range n).map λi=>.int (0+(i:Nat))):=by simp only[kd,bT];rw[K5 ⟨by omega,by omega⟩,L4]
theorem KS(k n:Nat)(l:List Int)(a:n<=1000):aC P (k+1) 112 [.int (n:Nat),.lst (l.map .int)]=some (.lst ((iW n l).map .int)):=by
 refine dP rfl rfl ?_;simp only[KD,entry];walk_at "ev";rw[tF a];walk_at "ev";rw[K5 (by rw[Kr,LX];omega),eV (p:=λc:Nat=> !l.contains c) (g:=λc=>PV.int c) (λc hc=>by
  walk_at "ev";rw[show(0:Int)+c=c by omega,k8];cases l.contains c
  ·walk_at "ev"
  ·walk_at "ev")]
 walk_at "ev";unfold iW k7;rw[List.filter_map,Lc];rfl
theorem Bg(H:aV)(c:Int):jy (H.map λp=>(Sum.inl p.1:IR.ah)) (H.map λp=>PV.int p.2) (Sum.inl c)=(bB H c).map PV.int:=by
 unfold bB
 induction H with
 |nil=>rfl|cons p H a =>
  rw[K8,K8,Lu];unfold jy
  by_cases e:p.1=c
  ·rw[K5 (by rw[e]),LU e]
   rfl
  ·rw[LC λz=>e (Sum.inl.inj z),Ld e]
   exact a
theorem xg{n:Bool}(H:aV)(h:H.length<=1000):ju .lvals [.frz (fF H) n]=some (.own ((H.map (·.2)).map PV.int) true):=by show(if _ then(aU (H.map λp:Int×Int=>PV.int p.2)).map _ else none)=_;rw[K5 (by rw[Kr];show _<=16777216;omega),show(H.map λp:Int×Int=>PV.int p.2)=(H.map (·.2)).map PV.int by rw[Lc];rfl,bW];rfl
theorem Ga{n:Bool}{m:Bool}(h:bB H c=some r):index (.frz (fF H) n) (.frz (.int c) m)=some (.frz (.int r) true):=by show(jy (H.map λp=>(Sum.inl p.1:IR.ah)) (H.map λp=>PV.int p.2) (Sum.inl c)).map _=_;rw[Bg,h];show some (RV.frz (.int r) (n||true))=_;rw[Nt]
theorem CN{n k:Nat}(a:ub C n H)(h:sM C H n R Q k)(b:r∈R):0<=r/\r<(n:Int):=by
 rw[h.shape]at b
 rcases LP.mp b with z|z
 ·exact(de.mp z).1
 ·obtain⟨c,d,rfl⟩:=LD.mp z
  exact a.rows _ (LD.mpr ⟨_,eD (oS (kh a h d)),rfl⟩)
theorem c113(k:Nat)(C:List (List Int))(c8:C.length<=8)(W:∀r,∀c∈gc C r,0<=c/\c<8):∃v,aC P (k+2) 113 [.lst (mD C),fF (hd C C.length)]=some v/\∃R Q,v=.tup [.lst (R.map .int),.lst (Q.map .int)]/\sM C (hd C C.length) C.length R Q R.length:=by
 refine kb rfl rfl ?_;have A:=rB W C.length;have hl:(hd C C.length).length<=100:=by have:=oV (C:=C) C.length;omega
 obtain⟨H,hH⟩:∃H,H=hd C C.length:=⟨_,rfl⟩;rw[<- hH]at A hl ⊢;have Y:=KS k C.length (H.map (·.2)) (by omega);simp only[KC,entry];walk_at "ev";rw[show(mD C).length=C.length from Kr _,xg H (by omega)];walk_at "ev";rw[Y];walk_at "ev";refine whTo (λm x=>∃R Q f a b,m+f=C.length+8/\sM C H C.length R Q f/\f<=R.length/\x=[.frz (.lst (mD C)) false,.frz (fF H) false,.own (R.map .int) true,.own (Q.map .int) true,.frz (.int (f:Nat)) true,a,b]) (C.length+8) (by omega) ⟨_,_,0,_,_,rfl,y9,LY _,rfl⟩ ?_;rintro m x ⟨R,Q,f,a,b,hm,N,hp,rfl⟩;have rl:=nZ A N;refine⟨decide (f<R.length),?_,λz=> ?_,λz=> ?_⟩
 ·walk_at "ev"
  rw[Kr,show decide ((f:Int)<(R.length:Int))=decide (f<R.length)from by rw[L7,Ml,Ml];omega]
 ·have u:f<R.length:=LJ z
  refine⟨by omega,?_⟩;walk_at "ev";rw[zz u];walk_at "ev";have w:R[f]? =some (R.getD f 0):=by rw[Kz,Kv u];rfl
  obtain⟨r,Z⟩:∃r,r=R.getD f 0:=⟨_,rfl⟩;rw[<- Z]at w ⊢;obtain⟨r0,r1⟩:=CN A N (K9 w);obtain⟨i,L⟩:∃i,C[r.toNat]? =some i:=⟨_,Kv (by omega)⟩;have J:gc C r=i:=by unfold gc;rw[Kz,L];rfl
  have S:dH (mD C) r=some (.lst (i.map .int)):=by have:=bh (xs:=mD C) (by unfold mD;rw[LA,L];rfl);rw[show((r.toNat:Nat):Int)=r by omega]at this;exact this
  refine eG (xs:=i.map .int) (n:=false) ?_ (λj x=>∃p o b,sM C H C.length p o f/\p[f]? =some r/\(∀c∈i.take j,c∈o)/\x=[.frz (.lst (mD C)) false,.frz (fF H) false,.own (p.map .int) true,.own (o.map .int) true,.frz (.int (f:Nat)) true,.frz (.int r) true,b]) ⟨R,Q,b,N,w,λc D=>by simp at D,rfl⟩ ?_ ?_
  ·walk_at "ev"
   rw[S];walk_at "ev"
  ·rintro j y x X ⟨p,o,b,g,e,l,rfl⟩
   obtain⟨hj,rfl,q⟩:=int_at X;have I:i[j]? =some (i.getD j 0):=by rw[Kz,Kv hj];rfl
   obtain⟨c,ec⟩:∃c,c=i.getD j 0:=⟨_,rfl⟩;rw[<- ec]at q I ⊢;have M:i.take (j+1)=i.take j++[c]:=by rw[Ma,I];rfl
   have h :f<p.length:=(Kw.mp e).1;refine⟨_,rfl,?_⟩;walk_at "ev";rw[k8];have U :=nZ A g;cases D:o.contains c with
   |true =>
    walk_at "ev";refine⟨p,o,_,g,e,λd hd=> ?_,rfl⟩;rw[M]at hd
    rcases LP.mp hd with z|z
    ·exact l d z
    ·rw[LF.mp z]
     exact Lh.mp D
   |false =>
    have T:c∉o :=λz=>by rw[Lh.mpr z]at D;cases D
    have s:=K9 e;have E:c∈gc C r:=by rw[J];exact q
    have K:=Fm g (Mp h) s E T;have ql:o.length<=p.length:=by rw[g.shape,K7,Kr];omega
    have O:=Ga (n:=false) (m:=true) (oS (CP A g s E));walk_at "ev";rw[eA rfl (by rw[Kr];show _<16777216;omega)];walk_at "ev";rw[O];walk_at "ev";rw[eA rfl (by rw[Kr];show _<16777216;omega)];walk_at "ev";refine⟨p ++[Gq H c],o ++[c],_,K,by rw[L9 h];exact e,λd hd=> ?_,by rw[LI,LI];rfl⟩;rw[M]at hd
    rcases LP.mp hd with z|z
    ·exact LQ _ (l d z)
    ·exact Lb _ z
  ·rintro x ⟨p,o,b,g,e,l,rfl⟩
   rw[Kr,L8]at l;have h :f<p.length:=(Kw.mp e).1;walk_at "ev";rw[vt rfl];walk_at "ev";exact⟨_,rfl,p,o,f+1,_,_,by omega,CO g e (by rw[J];exact l),h,rfl⟩
 ·have u:=of_decide_eq_false z
  walk_at "ev";refine⟨_,rfl,R,Q,rfl,?_⟩;rw[show R.length=f by omega];exact N
theorem mU:∀a:List (Int×Int),iR (a.map km)=some a
 |[]=>rfl|p::a=>by show((zN (km p)).bind λq=>(iR (a.map km)).map (q::·))=_;rw[mU a];rfl
theorem wX(b:a≠[])(c:a.length<64):ee (a.map km)=some (.own ((d8 a).map km) true):=by
 unfold ee;have e:aU (a.map km)=none:=by
  cases a with
  |nil=>exact absurd rfl b|cons p a=>rfl
 rw[e];unfold px;rw[mU];show(if a.length<64 then some (RV.own ((d8 a).map km) true)else none)=_;rw[K5 c]
def vp(a:List Str):List (List Int):=a.map λz=>(ef z).map λc:Nat=>(c:Int)
def si(H:aV):List (Int×Int):=H.map λp=>(p.2,p.1)
theorem vA:∀H:aV,BX (H.map λp=>Sum.inl p.1) (H.map λp=>.int p.2)=some H
 |[]=>rfl|p::H=>by show(BX (H.map λp=>Sum.inl p.1) (H.map λp=>.int p.2)).map (p::·)=_;rw[vA H];rfl
theorem DD{n:Bool}(h:H.length<=1000):xD (.frz (fF H) n)=some (.own ((si H).map km) true):=by show(if(H.map λp:Int×Int=>(Sum.inl p.1:IR.ah)).length<=LN then(BX (H.map λp=>Sum.inl p.1) (H.map λp=>.int p.2)).map _ else none)=_;rw[K5 (by rw[Kr];show _<=16777216;omega),vA];unfold si;rw[Lc];rfl
theorem yd(d:a.length<64):ee (a.map km)=some (.own ((d8 a).map km) true):=by
 by_cases b:a=[]
 ·subst b
  have:d8 []=[]:=rfl;have c:=Nk (by rw[(L2.sortI_perm []).length_eq];rfl);show(if([]:List Int).length<64 then some (RV.own ((L2.sortI []).map PV.int) true)else none)=_;rw[K5 (by decide),c];rfl
 ·exact wX b d
theorem c111(k:Nat)(C:List (List Int))(c:iC C=true):aC P (k+13) 111 [.lst (mD C)]=some (fF (hd C C.length)):=by
 refine run rfl rfl ?_;have a:aC P (k+12) 20011 [.non]=some .non:=rfl;have b:rA [.lst (mD C)]=some (fF (hd C C.length)):=by unfold rA;dsimp only;rw[nA];simp only[K2];rw[K5 c]
 simp only[Do,wF,wG,gI,gG,cQ,cR,pU,pV,entry,K2,Lj,K8,MJ,bT,sc];rw[a];simp only[Lj,K2,fe];have e:(([TV.frz (PV.lst (mD C)) (imm (PV.lst (mD C)))]++List.replicate (3-[PV.lst (mD C)].length) TV.un).take 1).map TV.valD=[.lst (mD C)]:=rfl;rw[e,b];rfl
theorem rX(d:Wd a w)(f:a.length<=8)(h:w<=8):iC (vp a)=true:=by
 unfold iC vp;rw[Kt];refine⟨LU (by rw[Kr];exact f),?_⟩;rw[NH,LL];intro z g;have e:=d z g;show(decide (((ef z).map λc:Nat=>(c:Int)).length<=100)&&((ef z).map λc:Nat=>(c:Int)).all _)=true;rw[Kt];refine⟨LU ?_,?_⟩
 ·rw[Kr]
  refine LM (ME _ _) ?_;rw[LX];omega
 ·rw[NH,LL]
  intro c b;have b:=(Ly.mp b).1;rw[Lg]at b;show(decide ((0:Int)<=c)&&decide ((c:Int)<8))=true;rw[Kt];exact⟨LU (by omega),LU (by omega)⟩
theorem wV(h:l.length<64):ee (l.map .int)=some (.own ((L2.sortI l).map .int) true):=by unfold ee;rw[bW];exact K5 h
theorem yP(H:aV):told (fF H)=.frz (fF H) true:=rfl
theorem c114(k:Nat)(d:List Str)(w:Nat)(o:Wd d w)(s:d.length<=8)(A:w<=8):∃v,aC P (k+14) 114 [.tup (d.map .str)]=some v/\∃R Q,v=.tup [.tup ((d8 (si (hd (vp d) d.length))).map km),.lst ((iW d.length R).map .int),.lst ((L2.sortI Q).map .int)]/\sM (vp d) (hd (vp d) d.length) d.length R Q R.length:=by
 refine kb rfl rfl ?_;have n:=rX o s A;obtain⟨_,J,m⟩:=iB n;have r:(vp d).length=d.length:=by unfold vp;rw[Kr]
 have f:=c111 k (vp d) n;obtain⟨v,e,R,Q,rfl,i⟩:=c113 (k+11) (vp d) (by omega) m;have l:=rB m d.length;have y:=oV (C:=vp d) d.length;rw[r]at f e i;have j:=KS (k+12) d.length R (by omega);obtain⟨H,D⟩:∃H,H=hd (vp d) d.length:=⟨_,rfl⟩;rw[<- D]at f e i l y ⊢;have K:=nZ l i;have E:Q.length<=R.length:=by rw[i.shape,K7,Kr];omega
 have p:H.length<=8:=by
  have:=gu (U:=[0,1,2,3,4,5,6,7]) l.mt.rows λx hx=>by obtain⟨a,b⟩:=l.rows x hx;simp only[LB];omega
  rw[Kr]at this;exact this
 simp only[KB,entry];walk_at "ev";rw[K5 (by rw[Kr];omega),hX (g:=λz=>PV.lst (((ef z).map λc:Nat=>(c:Int)).map .int)) (λz hz=>by have q:=KU (k+12) z (by have:=o z hz;omega);walk_at "ev";rw[q];walk_at "ev";rw[Lc];rfl)]
 walk_at "ev";have u:d.map (λz=>PV.lst (((ef z).map λc:Nat=>(c:Int)).map .int))=mD (vp d):=by unfold mD vp;rw[Lc];rfl
 rw[u,f];walk_at "ev";rw[yP];walk_at "ev";rw[DD (by omega)];walk_at "ev";rw[yd (by unfold si;rw[Kr];omega)];walk_at "ev";rw[e];walk_at "ev";rw[Kr,j];walk_at "ev";rw[wV (by omega)];walk_at "ev";exact⟨_,rfl,R,Q,rfl,i⟩
section
open PySem.Spec PyProof.Rows L2.XN XE
structure BU(K:W.Frag)(mg:Str->Option Value)(C D c1 c2 c3 fI:Addr)(fd:FuncData):Prop where
 mx:EC K C fI "rows"
 kC:BQ K mg "NoStair" C
 kD:BQ K mg "BoardError" D
 k1:BQ K mg "NoBoard" c1
 k2:BQ K mg "NoPlacing" c2
 k3:BQ K mg "TooGreat" c3
 sC:W.subIn K (.ref C) (.ref C)=some true
 sD:W.subIn K (.ref C) (.ref D)=some true
 sB:W.subIn K (.ref D) (.type "BaseException")=some true
 sV:W.subIn K (.ref C) (.type "ValueError")=some true
 s1:W.subIn K (.ref C) (.ref c1)=some false
 s2:W.subIn K (.ref C) (.ref c2)=some false
 s3:W.subIn K (.ref C) (.ref c3)=some false
 n1:C≠c1
 n2:C≠c2
 n3:C≠c3
 fn:∃(oc kV doc pm cdv ct oc' :Value)(od an od' :Option Addr)(osl osl' :Array (Option Value))(T:Addr)(n:Nat),fd=W.fnOf "__init__" "NoStair.__init__" (bw sI) (ai sI) (aI sI) (.ref T) kV doc pm an cdv ct/\K.lookup fI=some ⟨oc,od,.func fd,osl⟩/\W.codeIn K cdv "NoStair.__init__"=true/\K.lookup T=some ⟨oc',od',.seq #[.none] n,osl'⟩
abbrev NI:List Str:=["self","rows"]
theorem uv:ak NI NI (aI sI):=⟨rfl,rfl,rfl,by decide +kernel,rfl,by decide +kernel,by decide +kernel⟩
def spI(K:W.Frag)(a:Addr):Sp:=λvs H Q _=>∃e C y,vs=[.ref e,y]/\H e=some (XN C none e)/\EC K C a "rows"/\∀d,H d=none->d≠e->Q .non (upd (upd H e (XN C (some d) e)) d (.xd [("rows",y)]))
section
variable{K:W.Frag}{mg:Str->Option Value}{C D c1 c2 c3 fI:Addr}{fd:FuncData}(cl:BU K mg C D c1 c2 c3 fI fd){p:Program}{w:World}{base:Heap}{k:Nat}
include cl
theorem DK:aq p w K mg base dI (k+1) fI fd NI (spI K fI):=by
 obtain⟨v,r,l,u,g,ct,m,x,o,c,j,b,T,n,rfl,f,a,_⟩:=cl.fn;refine my f a uv (λvs H Q E h=> ?_) λA outer s H vs Q E hr h=> ?_
 ·obtain⟨e,C,y,rfl,_⟩:=h
  rfl
 ·obtain⟨e,C,y,rfl,i,M,q⟩:=h
  refine⟨_,aO (CZ (pv 0) (pv 1) rfl),?_⟩;exact⟨y,rfl,_,rfl,e,C,fI,rfl,i,M,λd hd hn=>q d hd hn⟩
theorem DL:Binds K fd NI []:=by obtain⟨u,q,i,r,g,ct,j,v,o,e,h,c,T,n,rfl,m,f,l⟩:=cl.fn;intro s us X d;rw[MP]at d ⊢;obtain⟨a,b,rfl⟩:=DA d;exact W.binds_K X rfl l rfl rfl rfl
end
end
section
open PySem.Spec PyProof.Rows L2.XN XE
structure Kl(K:W.Frag)(X D c1 c2 C c3:Addr)(b1 b2 b3 b4:Bool):Prop where
 xc:XC K X
 kD:W.kitOne K (.ref X) (.ref D)=some true
 kV:W.kitOne K (.ref X) (.type "ValueError")=some true
 k1:W.kitOne K (.ref X) (.ref c1)=some b1
 k2:W.kitOne K (.ref X) (.ref c2)=some b2
 k3:W.kitOne K (.ref X) (.ref C)=some b3
 k4:W.kitOne K (.ref X) (.ref c3)=some b4
structure ED(K:W.Frag)(mg:Str->Option Value)(C D c1 c2 c3 fI:Addr)(fd:FuncData):Prop where
 cs:BU K mg C D c1 c2 c3 fI fd
 q1:W.excIn K c1 KW "ValueError.__new__"=true
 q2:W.excIn K c2 KW "ValueError.__new__"=true
 q3:W.excIn K c3 KW "ValueError.__new__"=true
 p1:W.keepIn K (.ref c1)=true
 p2:W.keepIn K (.ref c2)=true
 p3:W.keepIn K (.ref c3)=true
 s1:W.subIn K (.ref c1) (.ref D)=some true
 sX:W.subIn K (.ref C) (.type "BaseException")=some true
 n1:Kl K c1 D c1 c2 C c3 true false false false
 n2:Kl K c2 D c1 c2 C c3 false true false false
 nC:Kl K C D c1 c2 C c3 false false true false
 n3:Kl K c3 D c1 c2 C c3 false false false true
end
section
open PySem.Spec PyProof.Rows L2.XN XE
theorem IK.kin{K:W.Frag}{i:Str->Option Value}{m:Addr}{n:FuncData}{b1:Bool}(r:IK K X D b d C c b1 f e g)(a:BU K i C D b d c m n)(h:(W.clsIn K X).isSome=true)(o:X=b->b1=true)(p:X=d->f=true)(j:X=C->e=true)(l:X=c->g=true):Kl K X D b d C c b1 f e g := ⟨⟨r.ga,r.gn,r.ca,a.mx.xc.sg,a.mx.xc.tk,r.ob,r.be,h⟩,a.kD.kit r.sD λ_=>rfl,GU r.sV (by decide +kernel),a.k1.kit r.s1 o,a.k2.kit r.s2 p,a.kC.kit r.s3 j,a.k3.kit r.s4 l⟩
end
section
open PySem.Spec PyProof.Rows L2.XN XE
def Iw(K:W.Frag)(C:Addr):Sp:=λvs H _ E=>∃(a:List Str)(i j:Nat),UM.aW 8 a/\aJ K H false [.tup (a.map .str)] H vs/\ID a (.tup [.int (i:Nat),.int (j:Nat)])/\∀b d t,aE H b ->b d=some (.xd [("rows",t)])->Rp K H true (.tup [.int (i:Nat),.int (j:Nat)]) b t->E (.ref C) (some d) b
theorem yx:ak Kk ["board"] (aI yy):=⟨rfl,rfl,rfl,by decide +kernel,rfl,by decide +kernel,by decide +kernel⟩
theorem yu:ak Kj ["board"] (aI CB):=⟨rfl,rfl,rfl,by decide +kernel,rfl,by decide +kernel,by decide +kernel⟩
theorem p9{K:W.Frag}{n:Bool}{v:PV}(h:aJ K H n [v] c a):∃u,a=[u]:=by obtain⟨u,us,rfl,_,b⟩:=h;exact⟨u,by rw[b]⟩
section
variable{K:W.Frag}{mg:Str->Option Value}{C D c1 c2 c3 fI:Addr}{fdI:FuncData}(cl:BU K mg C D c1 c2 c3 fI fdI){p:Program}{w:World}{base:Heap}{k:Nat}
include cl
theorem Ja(Y:eh K mg "steps_of" yy ["board"] f N)(A:∀y g,F.lookup y=some g->∃b L J,mg y=some (.ref b)/\PySem.W.keepIn K (.ref b)=true/\Binds K L J []/\aq p w K mg base dI (k+3) b L J (kB K (aC P (k+3) g))) :
  aq p w K mg base (sN p w C) (k+4) f N ["board"] (Iw K C):=by
 obtain⟨oc,od,kV,Z,pm,an,S,ct,X,rfl,R,x⟩:=Y.fn.ex;obtain⟨b,L,J,m1,m2,U,T⟩:=A "crossing_rows" 142 rfl;refine my R x yx (λvs H Q E h=> ?_) λA outer s H vs Q E hr h=> ?_
 ·obtain⟨c,i,j,_,m,_⟩:=h
  obtain⟨u,rfl⟩:=p9 m;rfl
 ·obtain⟨c,i,j,O,m,cr,q⟩:=h
  obtain⟨w',w1,w2,hw⟩:=O.wide;obtain⟨v,l,n⟩:=Ei k c w' hw O.few w2;obtain rfl:=HL n cr;obtain⟨u,rfl⟩:=p9 m;refine⟨_,aF (ao (i:=1) yx.nd rfl (Or.inl rfl) (ag T hr rfl m1 m2 U .nil bZ (aB (pv 0) aH))) (aF (gW (nz (Cm (pv 1))) (aO (wo (W:=λe C' dd H1=>C' =C/\H e=none/\E (.ref C) dd (qS H1 e)) rfl (F6 (E:=λ_ _ _=>False) cl.mx (DK (k:=0) cl) (hr.mono (by omega)) rfl cl.kC.nm (DL cl) .nil (aB (pv 1) aH)) λpins σ H1 s1 e C' dd I ea w=>by obtain⟨rfl,hn,q⟩:=w;exact tH I hn ea q)) bF) ay),?_⟩
  refine⟨u,rfl,_,_,m,l,λt H1 s1 rt=> ?_⟩;have tn:t≠.non:=λz=>by rw[z]at rt;obtain⟨a,_,e,_⟩:=Rp.tup.mp rt;cases e
  refine⟨t,rfl,_,rfl,?_⟩;rw[Ld tn];refine gP ⟨t,rfl,by show 1<=sizeLine;decide,λe he=>⟨e,C,t,rfl,aD,cl.mx,λd hd hde=>⟨rfl,e,C,fI,"rows",some d,rfl,cl.mx,?_,rfl,s1.free he,?_⟩⟩⟩
  ·rw[aA (MC hde),aD]
  ·have r:H1 d=none:=by rw[aA hde]at hd;exact hd
   have M:aE H1 (qS (upd (upd (upd H1 e (XN C none e)) e (XN C (some d) e)) d (.xd [("rows",t)])) e):=λb o z=>by rw[cE (aG z he),aA (aG z r),aA (aG z he),aA (aG z he)];exact z
   exact q _ d t (s1.trans M) (by rw[cE hde,aD]) (rt.mono M)
theorem JZ(Df:eh K mg "factors_of" CB ["board"] f fd)(D3:eh K mg "steps_of" yy ["board"] f3 fd3)(fns:∀y g,F.lookup y=some g->∃b gd qs,mg y=some (.ref b)/\W.keepIn K (.ref b)=true/\Binds K gd qs []/\aq p w K mg base dI (k+3) b gd qs (kB K (aC P (k+3) g))) :
  aq p w K mg base (sN p w C) (k+5) f fd ["board"] (Iw K C):=by
 have F0:=Ja cl D3 fns;obtain⟨oc,od,kV,doc,pm,an,cdv,ct,osl,rfl,lk,hcd⟩:=Df.fn.ex;refine my lk hcd yu (λvs H Q E h=> ?_) λA outer s H vs Q E hr h=> ?_
 ·obtain⟨rows,i,j,_,h1,_⟩:=h
  obtain⟨u,rfl⟩:=p9 h1;rfl
 ·obtain⟨rows,i,j,bd,h1,cr,q⟩:=h
  obtain⟨u,rfl⟩:=p9 h1;refine⟨_,aF (ao (i:=1) yu.nd rfl (Or.inl rfl) (ag F0 hr rfl D3.nm D3.fn.kp D3.bd .nil (vF λ_ _ z=>z) (aB (pv 0) aH))) ay,?_⟩;exact⟨u,rfl,rows,i,j,bd,h1,cr,q⟩
end
end
theorem xX(f:∀z∈a,z.length<=1002):lY (.tup (a.map .str))=ja a:=by
 have i:∀z:Str,z.length<=1002->(cJ (PV.str z)).getD 0=z.length:=λz d=>by rw[len_str,K5 (by show z.length<=16777216;omega)];rfl
 show(d9 _&&((a.map PV.str).all fP&&(a.map PV.str).all λx=>decide ((cJ x).getD 0=(cJ ((a.map PV.str).getD 0 .non)).getD 0)))=_;cases a with
 |nil=>rfl|cons y a =>
  have n:(cJ (((y::a).map PV.str).getD 0 .non)).getD 0=y.length:=i y (f y K6);rw[n,L7];unfold ja d9;simp only[Kt,LL,MI,Kr,List.headD_cons];have l:∀z:Str,fP (.str z)=true↔(1<=z.length/\z.length<=8)/\∀c∈z.cps.toList,c=120\/c=46:=λz=>by
   show(d9 z.length&&z.cps.toList.all mP)=true↔_;unfold d9;simp only[Kt,LL,MI]
   constructor
   ·rintro⟨⟨j,h⟩,b⟩
    exact⟨⟨by omega,by omega⟩,λc hc=>by simpa [mP]using b c hc⟩
   ·rintro⟨⟨j,h⟩,b⟩
    exact⟨⟨by omega,by omega⟩,λc hc=>by simpa [mP]using b c hc⟩
  constructor
  ·rintro⟨⟨j,h⟩,b,e⟩
   have g:=(l y).mp (b _ (by simp));refine⟨⟨⟨⟨by omega,by omega⟩,λz d=>⟨?_,λc hc=> ?_⟩⟩,LU g.1.1⟩,LU g.1.2⟩
   ·have:=e (.str z) (List.mem_map_of_mem d)
    rw[i z (f z d)]at this;exact LU this
   ·have:=((l z).mp (b (.str z) (List.mem_map_of_mem d))).2 c hc
    simpa using this
  ·rintro⟨⟨⟨⟨j,h⟩,b⟩,e⟩,m⟩
   refine⟨⟨by omega,by omega⟩,λx hx=> ?_,λx hx=> ?_⟩
   ·obtain⟨z,d,rfl⟩:=LD.mp hx
    have g:=b z d;exact(l z).mpr ⟨⟨by omega,by omega⟩,λc hc=>by simpa using g.2 c hc⟩
   ·obtain⟨z,d,rfl⟩:=LD.mp hx
    rw[i z (f z d)];exact LJ (b z d).1
theorem lv4{k:Nat}{v:PV}(h:aC P k 20004 [.non]=some v):5<=k:=by
 by_cases a:5<=k;exact a
 ·have e:∀k,k<5->(aC P k 20004 [.non]).isNone=true:=by decide +kernel
  have:=e k (by omega);rw[h]at this;cases this
set_option tactic.hygienic true in
theorem qE{k:Nat}(h:aC P (k+1) 32 c=some r):5<=k/\∃z a,c=[.str z]/\z.length<=1000/\Txt.split z NL=a/\UM.aW 8 a/\r=.tup (a.map .str):=by
 rw[eX]at h;have g:P 32=some Dn:=rfl;rw[g,K2]at h
 split at h
 case isFalse=>cases h
 rename_i b;obtain⟨v,rfl⟩:=AE b;simp only[Dn,wF,wG,gI,gG,cQ,cR,pU,pV,entry,K2,Lj,K8,MJ,bT]at h;cases d:aC P k 20004 [.non]with
 |none=>rw[d]at h;cases h|some x =>
  rw[d]at h;simp only[Lj,K2,fe]at h;have e:(([TV.frz v (imm v)]++List.replicate (2-[v].length) TV.un).take 1).map TV.valD=[v]:=rfl;rw[e]at h;cases f:qF [v]with
  |none=>rw[f]at h;cases h|some i =>rw[f]at h;cases h;exact⟨lv4 d,y8 f⟩
theorem c32(k:Nat)(b:UM.aW 8 a)(c:(Str.join NL a).length<=1000):aC P (k+6) 32 [.str (Str.join NL a)]=some (.tup (a.map .str)):=by refine run rfl rfl ?_;have d:aC P (k+5) 20004 [.non]=some .non:=rfl;simp only[Dn,wF,wG,gI,gG,cQ,cR,pU,pV,entry,K2,Lj,K8,MJ,bT,sc];rw[d];simp only[Lj,K2,fe];have e:(([TV.frz (PV.str (Str.join NL a)) (imm (PV.str (Str.join NL a)))]++List.replicate (2-[PV.str (Str.join NL a)].length) TV.un).take 1).map TV.valD=[.str (Str.join NL a)]:=rfl;rw[e,CM b c];rfl
section
open PySem.Spec PyProof.Rows L2.XN XE
theorem ka:ak pC ["text"] (aI ux):=⟨rfl,rfl,rfl,by decide +kernel,rfl,by decide +kernel,by decide +kernel⟩
def D9(i:Nat):Stmt:=(ai ux).getD i (.Pass ⟨0,0,0,0⟩)
abbrev KG:Ct:=⟨pC,(aI ux).names,F,G,B,[]⟩
theorem mO{K:PySem.W.Frag}{A:Around}{s:Shared}{m:Hp}{E:XK}(n:X={dg dI p w K h b pC "read_board" (aI ux) f e A a s m E with xe:=W})(g:h "tuple"=none)
  (o:c[0]? =some (some (.str z))) (j:z.length<=1000) (q:∀t d,aE H d ->d t=some (.tup ((Txt.split z NL).map V.str))->D.nx (c.set 1 (some (.ref t))) d):WS X (D9 1) D c H:=by
 subst n;refine ws (ao (i:=1) ka.nd rfl (Or.inl rfl) (bY cH rfl g Mi (aB (gX Mm PySem.F.slot_str_split PySem.F.type_str_split qX (pv 0) (aB bV aH)) aH))) ?_;refine⟨_,o,rfl,_,_,rfl,rfl,rfl,by rw[Lp];omega,λl j=>⟨l,_,rfl,.inl ⟨bJ.of aD,λt g=> ?_⟩⟩⟩;exact q t _ ((aM j _).trans (aM g _)) aD
theorem vS{y:Str}:∀{a:List Str},y∈a->y.length<=(Str.join NL a).length
 |[],h=>by cases h|[x],h=>by rw[LF.mp h];exact Ky _
 |x::b::a,h=>by
  have e:(Str.join NL (x::b::a)).length=x.length+1+(Str.join NL (b::a)).length:=by show(x.cps++ #[10]++(Str.join NL (b::a)).cps).size=_;rw[N6,N6];rfl
  rcases LB.mp h with h|h
  ·omega
  ·have:=vS h;omega
theorem zY(h:y∈Txt.split z NL):y.length<=z.length:=by have:=vS h;rw[StrLaws.join_split]at this;exact this
theorem c2s(k:Nat)(c:z.length<=1000):aC P (k+3) 2 [.tup ((Txt.split z NL).map .str)]=some (.bl (ja (Txt.split z NL))):=by
 have b:∀y∈Txt.split z NL,y.length<=1002:=λy a=>by have:=zY a;omega
 rw[<- xX b];exact c2 k _ rfl λxs e x hx=>by cases e;obtain⟨y,a,rfl⟩:=LD.mp hx;exact LU (by have:=b y a;show y.length<=16777216;omega)
theorem Gu{K:W.Frag}(hG:∀x v,G.lookup x=some v->∃u w,mg x=some u/\RelV w u/\∀Hi n H,Rp K Hi n v H w)(hB:∀x,B.contains x=true->mg x=none)(Df:eh K mg "read_board" ux ["text"] f fd)(p:Program)(w:World)(base:Heap)(k:Nat)
  (fns:∀y g,F.lookup y=some g->∃b gd qs,mg y=some (.ref b)/\W.keepIn K (.ref b)=true/\Binds K gd qs []/\aq p w K mg base dI k b gd qs (kB K (aC P k g))):aq p w K mg base dI (k+1) f fd ["text"] (kB K (aC P (k+1) 32)):=by
 refine Df.fn.ok ka (λvs H Q E h=> ?_) (λcdv A outer s H vs Q E hr h=> ?_)
 ·obtain⟨pvs,r,h1,h2,_⟩:=h
  rw[<- h1.len];obtain⟨_,_,_,rfl,_⟩:=qE h2;rfl
 obtain⟨pvs,r,h1,h2,q⟩:=h;obtain⟨hk,z,rows,rfl,zl,es,bd,rfl⟩:=qE h2;obtain⟨k,rfl⟩:∃k',k=k' +3:=⟨k-3,by omega⟩
 have C0:bS (aC P (k+3)) (dg dI p w K mg base pC "read_board" (aI ux) f cdv A outer s H E).nox KG :=
  ⟨rfl,ka.nd,rfl,ka.kind,rfl,hG,hB,λy g hy=>by obtain⟨b,gd,qs,z1,z2,z3,z4⟩:=fns y g hy;exact⟨k+3,b,gd,qs,z4,hr,z1,z2,z3⟩,Lq,hr.units⟩
 have R0:=jW (d:=Dn) (N:=pC) rfl h1;have hl0:(start pC vs).length=pC.length:=by have:=h1.len;unfold L2.start;rw[K7,Kr,Mx,<-this];rfl
 have e2:=c2s k zl;rw[es,eY.mpr bd]at e2;obtain⟨u0,g0,r0⟩:=R0.frz 0 _ _ rfl;have eu:=Rp.str.mp r0;subst eu;have eb:ai ux=[D9 0,D9 1,D9 2,D9 3]:=by kernel_rfl
 rw[eb];refine⟨_,ay,?_⟩;refine iF (aF fJ ay) ?_;refine lH (n:=80) (c' :=.not (.val (.bf (.isin "str") (.cons (.var 0) .nil)))) (t:=false) C0 (by kernel_rfl) ?_ R0 (λz=>by cases z) λ_ G s1=> ?_
 ·simp -implicitDefEqProofs only[Dn,entry]
  walk_at "ev"
 refine iF bF ?_;refine iF (aF fJ ay) ?_;refine mO rfl (hB "tuple" rfl) g0 zl λt G2 s2 ht=> ?_;rw[es]at ht;have R2:aY K H [] [.frz (.str z) true,.frz (.tup (rows.map .str)) true] ((start pC vs).set 1 (some (.ref t))) G2:=((R0.ext s1).ext s2).setF (i:=1) (n:=true) (by rw[hl0];show 1<pC.length;decide) (Rp.tup.mpr ⟨t,_,rfl,cU.of (by rw[kK];exact ht),aJ.strs2⟩);have L2:((start pC vs).set 1 (some (V.ref t))).length=pC.length:=by rw[Lk];exact hl0
 refine iF (aF fJ ay) ?_;refine lH (n:=80) (c' :=.not (.val (.call 2 (.cons (.var 1) .nil)))) (t:=false) C0 (by kernel_rfl) ?_ R2 (λz=>by cases z) λ_ G3 s3=> ?_
 ·walk_at "ev"
  rw[e2];walk_at "ev"
 refine iF bF ?_;refine iF (aF fJ ay) ?_;refine rt_w (fu:=0) (n:=80) C0 rfl (s' :=.ret [1] (.var 1)) (by kernel_rfl) ?_ (R2.ext s3) L2 q;rw[t8];walk_at "ev"
def Iv(K:W.Frag)(C:Addr):Sp:=λvs H _ E=>∃v,aJ K H false [v] H vs/\lq v=true/\∀a,aE H a ->E (.ref C) none a
theorem rb32{K:W.Frag}{o c2 c3:Addr}(hG:∀x v,G.lookup x=some v->∃u w,l x=some u/\RelV w u/\∀Hi n H,Rp K Hi n v H w)(hB:∀x,B.contains x=true->l x=none)(cl:ED K l C D o c2 c3 fI a0)(Df:eh K l "read_board" ux ["text"] f fd){k:Nat}
  (Z:∀y g,F.lookup y=some g->∃b T S,l y=some (.ref b)/\W.keepIn K (.ref b)=true/\Binds K T S []/\aq p w K l j dI (k+3) b T S (kB K (aC P (k+3) g))):aq p w K l j (sN p w o) (k+4) f fd ["text"] (Iv K o):=by
 refine Gz (λvs H Q E h=> ?_) λmd=> ?_
 ·obtain⟨v,J,_⟩:=h
  rw[<- J.len];rfl
 obtain⟨oc,od,kV,a2,pm,an,L,ct,a1,rfl,lk,U⟩:=Df.fn.ex;refine my lk U ka (λvs H Q E h=> ?_) λA outer s H vs Q E M h=> ?_
 ·obtain⟨v,J,_⟩:=h
  rw[<- J.len];rfl
 obtain⟨v,J,r,q⟩:=h
 have C0:bS (aC P (k+3)) (dg (sN p w o) p w K l j pC "read_board" (aI ux) f L A outer s H E) KG :=
  ⟨rfl,ka.nd,rfl,ka.kind,rfl,hG,hB,λy g hy=>by obtain⟨b,T,S,z1,z2,z3,z4⟩:=Z y g hy;exact⟨k+3,b,T,S,z4,M,z1,z2,z3⟩,PassesOwn.leaving,M.units⟩
 have R:=jW (d:=Dn) (N:=pC) rfl J;have X:(start pC vs).length=pC.length:=by have:=J.len;unfold L2.start;rw[K7,Kr,Mx,<-this];rfl
 have O:=F9 md.kin cl.cs.k1.nm cl.q1;have FV:=PySem.F.excBase_ValueError;have rs:∀{np m pos:Pos},PS (dg (sN p w o) p w K l j pC "read_board" (aI ux) f L A outer s H E) (.Raise (some (.Call (.Name "NoBoard" np) [] [] m)) none pos) (yV E o):=λ{np m pos}=>wq O FV (by decide) FV rfl rfl (λpins σ H s h' e I mk q=>wn I mk q);have eb:ai ux=[D9 0,D9 1,D9 2,D9 3]:=by kernel_rfl
 rw[eb];refine⟨_,ay,?_⟩;refine iF (aF fJ ay) ?_
 by_cases hs:∃z,v=.str z
 ·obtain⟨z,rfl⟩:=hs
  have r:(decide (z.length<=1000)&& !ja (Txt.split z NL))=true:=r;rw[Kt,M1]at r;have zl:=LJ r.1;have Y:=c2s k zl;rw[r.2]at Y;obtain⟨u0,g0,r0⟩:=R.frz 0 _ _ rfl;have eu:=Rp.str.mp r0;subst eu;refine lH (n:=80) (c' :=.not (.val (.bf (.isin "str") (.cons (.var 0) .nil)))) (t:=false) C0 (by kernel_rfl) ?_ R (λz=>by cases z) λ_ G s1=> ?_
  ·simp -implicitDefEqProofs only[Dn,entry]
   walk_at "ev"
  refine iF bF ?_;refine iF (aF fJ ay) ?_;refine mO (E:=E) rfl (hB "tuple" rfl) g0 zl λt G2 s2 ht=> ?_;obtain⟨c,M⟩:∃c,c=Txt.split z NL:=⟨_,rfl⟩;rw[<- M]at ht Y;have R2:aY K H [] [.frz (.str z) true,.frz (.tup (c.map .str)) true] ((start pC vs).set 1 (some (.ref t))) G2:=((R.ext s1).ext s2).setF (i:=1) (v:=.tup (c.map .str)) (n:=true) (by rw[X];show 1<pC.length;decide) (Rp.tup.mpr ⟨t,_,rfl,cU.of (by rw[kK];exact ht),aJ.strs2⟩);refine iF (aF fJ ay) ?_;refine lH (n:=80) (c' :=.not (.val (.call 2 (.cons (.var 1) .nil)))) (t:=true) C0 (by kernel_rfl) ?_ R2 (λ_ G3 s3=> ?_) (λz=>by cases z)
  ·walk_at "ev"
   rw[Y];walk_at "ev"
  exact iF (aO rs) (q _ (s1.trans (s2.trans s3)))
 ·refine lH (n:=80) (c' :=.not (.val (.bf (.isin "str") (.cons (.var 0) .nil)))) (t:=true) C0 (by kernel_rfl) ?_ R (λ_ G s1=> ?_) (λz=>by cases z)
  ·simp -implicitDefEqProofs only[Dn,entry]
   cases v with
   |str z=>exact absurd ⟨z,rfl⟩ hs|dT a b=>cases r|_=>walk_at "ev"
  ·exact iF (aO rs) (q _ s1)
end
def wS:PV->Str
 | .str z=>z| .int i=>Str.ofString (toString i)|_=>⟨#[]⟩
def EZ:PV->Bool
 | .str z=>decide (z.length<=70)| .int i=>decide (i.natAbs<2^200)|_=>false
theorem JY{l:List Int}(h:∀x∈l,x.natAbs<2^200):∀v∈l.map PV.int,EZ v=true:=λv hv=>by obtain⟨x,a,rfl⟩:=LD.mp hv;exact LU (h x a)
theorem GH{i:Int}(h:i.natAbs<1000):i.natAbs<2^200:=MZ h (by decide)
theorem DH{i:Int}(h:i.natAbs<2^200):(Str.ofString (toString i)).length<=70:=by
 have r:∀n,n<2^200->n.repr.length<=69:=λn h=>(Nat.length_repr_le_iff (by decide)).mpr (La h (by decide));rw[Str.ofString_eq_toList];show((toString i).toList.map Char.toNat).toArray.size<=70;rw[K1,Kr,String.length_toList];cases i with
 |ofNat n=>exact Nat.le_succ_of_le (r n h)|negSucc n =>show("-"++(n+1).repr).length<=70;rw[String.length_append];have:=r (n+1) h;show 1+_<=70;omega
theorem yB{v:PV}(h:EZ v=true):(wS v).length<=70:=by
 cases v with
 |str z=>exact LJ h|int i=>exact DH (LJ h)|_=>cases h
theorem By{v:PV}(h:EZ v=true):wR v=some (sc (.str (wS v))):=by
 cases v with
 |str z=>rfl|int i =>
  have h:=LJ h;show(if i.natAbs.log2<1920 then _ else _)=_;rw[K5 ?_]
  ·rfl
  ·by_cases z:i.natAbs=0
   ·rw[z];decide
   ·exact(Nat.log2_lt z).mpr (La h (MY (by decide) (by decide)))
 |_=>cases h
theorem gk{a:Type}{f:a->Nat}{b:Nat}:∀{l:List a},(∀x∈l,f x<=b)->(l.map f).sum<=b*l.length
 |[],_=>Ky _|x::l,h=>by rw[K8,NO,LK,Nat.mul_succ];have:=gk λy hy=>h y (Kx _ hy);have:=h x K6;omega
theorem c215(k:Nat)(ws:List PV)(hl:ws.length<=100)(h:∀v∈ws,EZ v=true):aC P (k+1) 215 [.lst ws]=some (.str (bP " " (ws.map wS))):=by
 refine dP rfl rfl ?_;simp only[J0,entry];walk_at "ev";rw[K5 (by show ws.length<=16777216;omega)];have e:=bC (f:=λx=>(wR x).bind λr=>Option.map some r.keep) (λv hv=>by rw[By (h v hv)];rfl)
 rw[List.map_id']at e;rw[e];walk_at "ev";have j:ib .join (.frz (.str (Str.ofString " ")) true) [.own (ws.map λv=>.str (wS v)) true]=some (sc (.str (bP " " (ws.map wS)))):=by show(bg (ws.map λv=>PV.str (wS v))).bind _=_;rw[show(ws.map λv=>PV.str (wS v))=(ws.map wS).map PV.str from by rw[Lc];rfl,dY,K2,K5 ?_];rw[Lc];have:=gk λv hv=>yB (h v hv);have e2:(ws.map ((λz:Str=>z.length)∘wS)).sum<=70*ws.length:=this;rw[Kr];show _+ws.length*1<=16777216;omega
 rw[j];walk_at "ev"
theorem c216(k:Nat)(rows:List Str)(w:Nat)(hw:Wd rows w)(h8:rows.length<=8)(w8:w<=8):∃v,aC P (k+15) 216 [.tup (rows.map .str)]=some v/\∃ws:List PV,v=.lst ws/\ws.length<=100/\∀x∈ws,EZ x=true:=by
 refine kb rfl rfl ?_;obtain⟨v,e,R,Q,rfl,hr⟩:=c114 k rows w hw h8 w8;obtain⟨_,cl,cc⟩:=iB (rX hw h8 w8);have ok:=rB cc rows.length;obtain⟨S,s1,s2,s3⟩:=ok.shut;obtain⟨H,hH⟩:∃H,H=hd (vp rows) rows.length:=⟨_,rfl⟩;rw[<- hH]at e hr ok s1 s3;have qb:=λx hx=>s2 x (hr.sub S ⟨s1,s3⟩ x hx);have rc:=zA ok hr;have hl:H.length<=8:=by
  have:=gu (U:=[0,1,2,3,4,5,6,7]) ok.mt.rows λx hx=>by obtain⟨a,b⟩:=ok.rows x hx;simp only[LB];omega
  rw[Kr]at this;exact this
 have sl:=(L2.sortI_perm Q).length_eq;simp only[Jz,entry];walk_at "ev";rw[e];walk_at "ev";have nl:∀(xs:List PV)(n:Bool),xs.length<=100->fB xs n=some (.own xs n):=λxs n h=>by unfold fB;rw[K5 (by show xs.length<=16777216;omega)]
 have a2:dH [PV.tup (List.map km (d8 (si H))),PV.lst (List.map PV.int (iW rows.length R)),PV.lst (List.map PV.int (sortI Q))] 2=some (PV.lst (List.map PV.int (sortI Q))):=rfl;rw[BB,nl _ _ (by simp;omega)];walk_at "ev";rw[K5 (by simp;omega),K2,a2];walk_at "ev";rw[BB,nl _ _ (by simp;omega)];walk_at "ev";refine⟨_,rfl,_,rfl,by simp;omega,?_⟩;have pl:(List.map km (d8 (si H))).length<=8:=by rw[Kr,wW];unfold si;rw[Kr];exact hl
 intro x hx;simp only[LP,LB,List.cons_append,NV,List.nil_append]at hx
 rcases hx with rfl|rfl|rfl|hx|rfl|hx
 ·decide
 ·exact LU (GH (by omega))
 ·decide
 ·exact JY (λy hy=>GH (by have:=(de.mp hy).1;omega)) x hx
 ·decide
 ·exact JY (λy hy=>GH (by have:=qb y ((L2.sortI_perm Q).mem_iff.mp hy);omega)) x hx
theorem KR(k:Nat)(h:Wd b w)(g:b.length<=8)(p:w<=8)(d:∀z∈b,∀y∈b,hasA z y=true\/hasA y z=true):∃l:List Int,aC P (k+5) 144 [.tup (b.map .str)]=some (.lst (l.map .int))/\l.length=8/\∀x∈l,x.natAbs<1000:=by
 have i:∀x∈sortI (b.map eI),0<=x/\x<=8:=λx hx=>by obtain⟨z,r,rfl⟩:=LD.mp ((sortI_perm _).mem_iff.mp hx);have v:(z.cps.toList.filter (·==120)).length<=z.cps.toList.length:=ME _ _;have s:=h z r;have u:z.cps.toList.length=z.length:=LZ;unfold eI;omega
 obtain⟨a,f⟩:∃a,a=(sortI (b.map eI)).map Int.toNat:=⟨_,rfl⟩;have q:sortI (b.map eI)=gv a:=by
  unfold gv;rw[f,Lc]
  conv=>lhs;rw[<- List.map_id (sortI (b.map eI))]
  refine Lr λx hx=> ?_;have:=i x hx;show x=((x.toNat:Nat):Int);omega
 have n:a.length<=8:=by rw[f,Kr,(sortI_perm _).length_eq,Kr];exact g
 have o:∀x∈a,x<=8:=λx hx=>by rw[f]at hx;obtain⟨y,c,rfl⟩:=LD.mp hx;have:=i y c;omega
 refine⟨G8 a,c144 k b w a h g p d q n,by unfold G8;rw[(sortI_perm _).length_eq];simp,λx hx=> ?_⟩;obtain⟨j,m,rfl⟩:=LD.mp ((sortI_perm _).mem_iff.mp hx);have m:=Lg.mp m;have:(gO a).getD j 0<=8:=by
  rw[Kz];cases e:(gO a)[j]? with
  |none=>exact LY _|some y =>
   have c:=K9 e;unfold gO at c
   rcases LP.mp c with c|c
   ·rw[(Nv.mp c).2];exact LY _
   ·exact o y c
 omega
theorem Eh(k:Nat)(a:List Str)(d:UM.aW 8 a):∃v,aC P (k+22) 217 [.tup (a.map .str)]=some v/\((∃l:List Int,ID a .non/\aC P (k+21) 144 [.tup (a.map .str)]=some (.lst (l.map .int))/\l.length=8/\(∀x∈l,x.natAbs<1000)/\v=.lst (.str (Str.ofString "factors")::l.map .int)) \/ ∃i j:Nat,i<8/\j<8/\ID a (.tup [.int i,.int j])/\v=.lst [.str (Str.ofString "none"),.int i,.int j]):=by
 obtain⟨w,H,p,o⟩:=d.wide;refine kb rfl rfl ?_;have A:aC P (k+21) 20020 [.non]=some .non:=rfl;have s:aC P (k+21) 20102 [.tup (a.map .str)]=some (.bl true):=by refine run rfl rfl ?_;show bv (((rg [.tup (a.map .str)]).map Fl.rt).bind _)=_;rw[HU d];rfl
 obtain⟨v,C,g⟩:=Ei (k+18) a w o d.few p;simp only[HJ,entry];have n:∀{e:IE}{b:En}{c:kO}{r:RV}{Q:Fl->Prop},aQ (aC P (k+21)) e b=some r->To (aX (aC P (k+21)) 1000000 c b) Q->To (aX (aC P (k+21)) 1000000 (.cons (.drop e) c) b) Q:=λ{e b c r Q} h q=>by have z:aX (aC P (k+21)) 1000000 (.cons (.drop e) c) b=(di (aC P (k+21)) 1000000 (.drop e) b).bind λf=>d7 f λτ1=>aX (aC P (k+21)) 1000000 c τ1:=rfl;have u:di (aC P (k+21)) 1000000 (.drop e) b=(aQ (aC P (k+21)) e b).map λ_=>.nx b:=rfl;rw[z,u,h];exact q
 refine n (by walk_at "ev";rw[A];rfl) ?_;refine n (by walk_at "ev";rw[s];rfl) ?_;walk_at "ev";rw[C];walk_at "ev"
 rcases id g with⟨rfl,_⟩|⟨i,j,D,J,rfl,_⟩
 ·obtain⟨l,y,m,E⟩:=KR (k+16) o d.few p (Cz g)
  walk_at "ev";rw[y];walk_at "ev";rw[K5 (by simp[m])];walk_at "ev";exact⟨_,rfl,.inl ⟨l,g,rfl,m,E,rfl⟩⟩
 ·walk_at "ev"
  have:=d.few;exact⟨_,rfl,.inr ⟨i,j,by omega,by omega,g,rfl⟩⟩
theorem c217(k:Nat)(a:List Str)(g:UM.aW 8 a):∃v,aC P (k+22) 217 [.tup (a.map .str)]=some v/\∃c:List PV,v=.lst c/\c.length<=100/\∀x∈c,EZ x=true:=by
 obtain⟨v,e,⟨l,_,_,f,d,rfl⟩|⟨i,j,h,m,_,rfl⟩⟩:=Eh k a g
 ·refine⟨_,e,_,rfl,by simp[f],λx b=> ?_⟩
  rcases LB.mp b with rfl|b
  ·decide
  ·exact JY (λx b=>GH (d x b)) x b
 ·refine⟨_,e,_,rfl,by simp,λx b=> ?_⟩
  simp only[LB,Li,NR]at b
  rcases b with rfl|rfl|rfl
  ·decide
  ·exact LU (GH (by omega))
  ·exact LU (GH (by omega))
theorem rq(g:Wd a w):(((b9 a w a.length).length:Nat):Int)=(a.map eI).sum:=by
 have b:∀n,n<=a.length->(((b9 a w n).length:Nat):Int)=((a.take n).map eI).sum:=by
  intro n
  induction n with
  |zero=>intro _;rfl|succ n h =>
   intro c;have d:=Kv c;rw[jg,K7,Int.natCast_add,h (by omega),List.take_succ,d];simp only[Option.toList_some,LI,List.sum_append,K8,MJ,NO,List.sum_nil,Int.add_zero]
   congr 1
   unfold kc eI;rw[Kr];have f:a[n].cps.toList.length=w:=g a[n] (NE c);have e:a[n].cps.toList=(List.range w).map λj=>cd a n j:=by refine List.ext_getElem (by simp[f]) λj h1 h2=> ?_;rw[NG,NP];unfold cd;rw[Kz,Kz,d,Mj,Kv h1,Mj]
   rw[e,List.filter_map,Kr];rfl
 have:=b a.length (Ky _);rw[L8]at this;exact this
theorem oW{sep:Str}(b:sep.length=1):∀a:List Str,(bP sep a).length<=(a.map (·.length)).sum+a.length
 |[]=>Ky _|[x]=>by show x.length<=x.length+0+1;omega|x::y::r=>by
  have c:=oW b (y::r);have e:(bP sep (x::y::r)).length=x.length+sep.length+(bP sep (y::r)).length:=by show(x.cps++sep.cps++(bP sep (y::r)).cps).size=_;rw[N6,N6];rfl
  rw[e,K8,NO,LK];omega
theorem vQ{ws:List PV}(hl:ws.length<=100)(h:∀v∈ws,EZ v=true):(bP " " (ws.map wS)).length<=7100:=by have h1:=oW (sep:=" ") rfl (ws.map wS);have h2:=gk λv hv=>yB (h v hv);rw[Lc,Kr]at h1;have h3:(ws.map ((λz:Str=>z.length)∘wS)).sum<=70*ws.length:=h2;omega
def bo(n:Nat):Str:=bP " " [Str.ofString "cells",Str.ofString (toString (n:Int))]
theorem c218(k:Nat)(rows:List Str)(w:Nat)(bd:UM.aW 8 rows)(hw:Wd rows w)(w8:w<=8)(hl:(Str.join NL rows).length<=1000):∃v,aC P (k+23) 218 [.str (Str.join NL rows)]=some v/\∃zs:List Str,v=.str (bP "\n" (bo (b9 rows w rows.length).length::zs))/\(bP "\n" (bo (b9 rows w rows.length).length::zs)).length<=40000:=by
 refine kb rfl rfl ?_;have h8:=bd.few;have z8:∀z∈rows,z.length<=8:=λz hz=>by rw[hw z hz];exact w8
 have e32:=c32 (k+16) bd hl;have e3:=c3 (k+21) rows w hw h8 w8;have e48:=c48 (k+20) rows h8 z8;have e99:=c99 (k+18) rows w hw bd.some h8 w8;obtain⟨_,e216,W1,rfl,l1,o1⟩:=c216 (k+7) rows w hw h8 w8;obtain⟨_,e217,W2,rfl,l2,o2⟩:=c217 k rows bd;obtain⟨l3,o3⟩:=uy h8 z8;obtain⟨l4,o4⟩:=DW h8 w8 z8;have al:(b9 rows w rows.length).length<=64:=by
  have h1:=rq hw;have h2:∀l:List Str,(∀z∈l,z.length<=8)->(l.map eI).sum<=8*l.length:=by
   intro l
   induction l with
   |nil=>intro _;decide|cons z l ih =>intro h;have a:=ih λy hy=>h y (Kx _ hy);have b:=h z K6;have c:(z.cps.toList.filter (·==120)).length<=z.length:=LM (ME _ _) (Nat.le_of_eq LZ);rw[K8,NO,LK];unfold eI at a ⊢;omega
  have:=h2 rows z8;omega
 simp only[Jy,entry];walk_at "ev";rw[e32];walk_at "ev";rw[e3];walk_at "ev";rw[e48];walk_at "ev";rw[K5 (by simp;omega)];walk_at "ev";rw[e99];walk_at "ev";rw[K5 (by simp;omega)];walk_at "ev";rw[e216];walk_at "ev";rw[e217];walk_at "ev";obtain⟨L,hL⟩:∃L:List (List PV),L=[[.str (Str.ofString "cells"),.int ((b9 rows w rows.length).length:Nat)],.str (Str.ofString "row")::(lx rows).map .int,.str (Str.ofString "hits")::(mq rows w).map .int,W1,W2]:=⟨_,rfl⟩;have ok:∀ws∈L,ws.length<=100/\∀v∈ws,EZ v=true:=λws hws=>by
  rw[hL]at hws;simp only[LB,Li,NR]at hws
  rcases hws with rfl|rfl|rfl|rfl|rfl
  ·refine⟨by simp,λv hv=> ?_⟩
   simp only[LB,Li,NR]at hv
   rcases hv with rfl|rfl
   ·decide
   ·exact LU (GH (by omega))
  ·refine⟨by simp;omega,λv hv=> ?_⟩
   rcases LB.mp hv with rfl|hv
   ·decide
   ·exact JY (λx hx=>MS (o3 x hx) (by decide)) v hv
  ·refine⟨by simp;omega,λv hv=> ?_⟩
   rcases LB.mp hv with rfl|hv
   ·decide
   ·exact JY o4 v hv
  ·exact⟨l1,o1⟩
  ·exact⟨l2,o2⟩
 have e:=bC (f:=λx=>(Option.map told (aC P (k+22) 215 [x])).bind λr=>Option.map some r.keep) (l:=L) (λws hws=>by rw[c215 (k+21) ws (ok ws hws).1 (ok ws hws).2];rfl)
 have j:ib .join (.frz (.str (Str.ofString "\n")) true) [.own (L.map λws=>.str (bP " " (ws.map wS))) true]=some (sc (.str (bP "\n" (L.map λws=>bP " " (ws.map wS))))):=by
  have e2:L.map (λws=>PV.str (bP " " (ws.map wS)))=(L.map λws=>bP " " (ws.map wS)).map PV.str:=by rw[Lc];rfl
  show(bg (L.map λws=>PV.str (bP " " (ws.map wS)))).bind _=_;rw[e2,dY,K2,K5 ?_];have h:=gk (l:=L) λws hws=>vQ (ok ws hws).1 (ok ws hws).2;have hn:L.length=5:=by rw[hL];rfl
  rw[Lc,Kr];have h:(L.map ((λz:Str=>z.length)∘λws=>bP " " (ws.map wS))).sum<=7100*L.length:=h;show _+L.length*1<=16777216;omega
 have lb:(bP "\n" (L.map λws=>bP " " (ws.map wS))).length<=40000:=by
  have h1:=oW (sep:="\n") rfl (L.map λws=>bP " " (ws.map wS));have h:=gk (l:=L) λws hws=>vQ (ok ws hws).1 (ok ws hws).2;have hn:L.length=5:=by rw[hL];rfl
  rw[Lc,Kr]at h1;have h:(L.map ((λz:Str=>z.length)∘λws=>bP " " (ws.map wS))).sum<=7100*L.length:=h;omega
 rw[hL]at e j lb;simp only[K8,MJ]at e j lb;rw[e];walk_at "ev";rw[j];walk_at "ev";exact⟨_,rfl,_,rfl,lb⟩
theorem Jc{k:Nat}{v:PV}(h:aC P k 20020 [.non]=some v):21<=k:=by
 by_cases a:21<=k;exact a
 ·have e:∀k,k<21->(aC P k 20020 [.non]).isNone=true:=by decide +kernel
  have:=e k (by omega);rw[h]at this;cases this
theorem lP{k:Nat}(h:bv (aX (aC P k) 1000000 (.cons (.drop (.call g es)) ss) τ)=some r):∃rs x,dj (aC P k) es τ=some rs/\aC P k g (rs.map RV.val)=some x/\bv (aX (aC P k) 1000000 ss τ)=some r:=by
 rw[bE,show di (aC P k) 1000000 (.drop (.call g es)) τ=(aQ (aC P k) (.call g es) τ).map λ_=>.nx τ from rfl,show aQ (aC P k) (.call g es) τ=(dj (aC P k) es τ).bind λrs=>(aC P k g (rs.map RV.val)).map told from rfl]at h;cases e:dj (aC P k) es τ with
 |none=>rw[e]at h;cases h|some rs =>
  rw[e,K2]at h;cases e2:aC P k g (rs.map RV.val)with
  |none=>rw[e2]at h;cases h|some x=>rw[e2]at h;exact⟨rs,x,rfl,e2,h⟩
set_option tactic.hygienic true in
theorem vc{k:Nat}(h:aC P (k+1) 217 b=some r):21<=k/\∃a:List Str,b=[.tup (a.map .str)]/\UM.aW 8 a:=by
 rw[eX,show P 217=some HJ from rfl,K2]at h
 split at h
 case isFalse=>cases h
 rename_i g;obtain⟨v,rfl⟩:=AE (show b.length=1 from g);obtain⟨_,_,d,c,h⟩:=lP h;cases d;have n:=Jc c;obtain⟨_,x,d,c,h⟩:=lP h;cases d;obtain⟨k,rfl⟩:∃l,k=l +1:=⟨k-1,by omega⟩;have m:rg [v]=some x:=by
  have:bv (((rg [v]).map Fl.rt).bind λf=>d7 f λτ1=>some (.nx τ1))=some x:=c;cases e:rg [v]with
  |none=>rw[e]at this;cases this|some y =>rw[e]at this;exact this
 obtain⟨_,a,i,j⟩:=Du m;exact⟨n,a,i,j⟩
section
open PySem.Spec PyProof.Rows L2.XN XE
theorem yt:ak Hy ["board"] (aI wg):=⟨rfl,rfl,rfl,by decide +kernel,rfl,by decide +kernel,by decide +kernel⟩
theorem uN{K:W.Frag}(h:X.K=K):eM X (binaryOp .Add) (λx y H Q=>∃(l b:Addr)(a c:List V),x=.ref l/\y=.ref b/\bJ K H l a/\bJ K H b c/\a.length+c.length<=sizeLine/\∀p,H p=none->Q (.ref p) (upd H p (.lst (a++c)))):=by subst h;exact vJ
theorem C7{K:W.Frag}(h:X.K=K):bO X (.type "list") (λxs H Q=>∃p a,xs=[.ref p]/\(bJ K H p a\/cU K H p a)/\∀l,H l=none->Q (.ref l) (upd H l (.lst a))):=by subst h;exact eW
def pd:List Stmt->List Stmt
 | .Try _ [.ExceptHandler _ _ s _] _ _ _::_=>s|_::r=>pd r|[]=>[]
theorem yY{K:W.Frag}{f:Addr}{p:Program}{w:World}{base:Heap}{cdv:Value}{A:Around}{outer:List Env}{s:Shared}{H0:Hp}{E:XK}(T:l "list"=none)(Q:EC K C J "rows") :
  ∃x:Addr->Option Addr->TS,(∀(e:Addr)(I:Option Addr)(pn:List (Addr×Obj)),pB (DQ (dg dI p w K l base Hy "words_of_factors" (aI wg) f cdv A outer s H0 E).nox e pn) (pd (ai wg)) (x e I)) /\ ∀(e d:Addr)(t:V)(D:cO)(g:L2.St)(H v:Hp)(i j:Int),g[1]? =some (some (.ref e))->Bb H C (some d) e->H d=some (.xd [("rows",t)])->Rp K v true (.tup [.int i,.int j]) H t->(∀h z,aE H h ->H z=none->h z=some (.lst [.str (Str.ofString "none"),.int i,.int j])->D.rt (.ref z) h)->x e (some d) D g H:=by
 have S:∀(e:Addr)(pn:List (Addr×Obj))(r u:Pos),PE (DQ (dg dI p w K l base Hy "words_of_factors" (aI wg) f cdv A outer s H0 E).nox e pn) (.Attribute (.Name "refusal" r) "rows" u) (EJ K (FF 1) "rows"):=λe pn r u=>Ch (pv 1) rfl;refine⟨_,λe I pn=>aO (bc (bN (uN (K:=K) rfl) (dv (aB bV aH)) (bY (C7 (K:=K) rfl) rfl T Mn (aB (S e pn _ _) aH)))),?_⟩;intro e d t D g H v i j O X U rt q;refine⟨(by show 1<=sizeLine;decide),λa ha=> ?_⟩;have c:aE H (upd H a (.lst [.str (Str.ofString "none")])):=(aE.refl H).upd ha;obtain⟨t,us,rfl,Y,R⟩:=Rp.tup.mp (rt.mono c);have N:us=[.int i,.int j]:=(aJ.ints (xs:=[i,j])).mp R;subst N;refine⟨_,O,e,C,J,d,_,.ref t,rfl,X.mono c,c _ _ U,Q,rfl,t,_,rfl,.inr Y,λb hb=> ?_⟩;have n:a≠b:=λz=>by rw[<- z,aD]at hb;cases hb
 have m:H b=none:=by rw[aA (MC n)]at hb;exact hb
 refine⟨a,b,_,_,rfl,rfl,bJ.of (by rw[aA n];exact aD),bJ.of aD,(by show 3<=sizeLine;decide),λz hz=> ?_⟩;have L:z≠b:=λy=>by rw[y,aD]at hz;cases hz
 rw[aA L]at hz;have M:z≠a:=λy=>by rw[y,aD]at hz;cases hz
 rw[aA M]at hz;exact q _ z (((c).upd m).upd hz) hz aD
theorem Da{K:PySem.W.Frag}{c1 c2 c3:Addr}(hG:∀x v,G.lookup x=some v->∃u w,L x=some u/\RelV w u/\∀Hi n H,Rp K Hi n v H w)(hB:∀x,B.contains x=true->L x=none)(J:ED K L C D c1 c2 c3 fI a2)
  (S:eh K L "factors_of" CB ["board"] f4 a0) (D3:eh K L "steps_of" yy ["board"] f3 Z) (Df:eh K L "words_of_factors" wg ["board"] f fd) (p:Program) (w:World) (m:Heap) (k:Nat)
  (I:∀j,j<=k->∀y g,F.lookup y=some g->∃b gd qs,L y=some (.ref b)/\PySem.W.keepIn K (.ref b)=true/\Binds K gd qs []/\aq p w K L m dI j b gd qs (kB K (aC P j g))):aq p w K L m dI (k+1) f fd ["board"] (kB K (aC P (k+1) 217)):=by
 refine Df.fn.ok yt (λvs H Q E h=> ?_) (λcdv A outer s H vs Q E hr h=> ?_)
 ·obtain⟨a1,r,N,O,_⟩:=h
  rw[<- N.len];obtain⟨_,_,rfl,_⟩:=vc O;rfl
 obtain⟨a1,r,N,O,q⟩:=h;obtain⟨hk,c,rfl,bd⟩:=vc O;obtain⟨k,rfl⟩:∃k',k=k' +21:=⟨k-21,by omega⟩;obtain⟨v,e,cs⟩:=Eh k c bd;rw[e]at O;cases O;obtain⟨u,rfl⟩:=p9 N;obtain⟨b4,a6,a5,U,a4,a3,F4⟩:=I (k+21) (Ky _) "factors_of" 144 rfl;have X4:=(JZ (k:=k) J.cs S D3 (I (k+3) (by omega))).mono (show k+5<=k+21 by omega);have nd:=yt.nd;obtain⟨ts,hS,rS⟩:=yY (p:=p) (w:=w) (base:=m) (f:=f) (cdv:=cdv) (A:=A) (outer:=outer) (s:=s) (H0:=H) (E:=E) (hB "list" rfl) J.cs.mx
 rcases cs with⟨l,cr,e4,l8,_,rfl⟩|⟨i,j,_,_,cr,rfl⟩
 ·refine⟨_,aO (n6 (C:=C) (D:=C) (i:=1) rfl rfl rfl nd rfl rfl rfl J.cs.kC.nm (J.cs.kC.exm J.cs.sC J.sX) (λE pn W hp=>aO (bc (bN (uN (K:=K) rfl) (dv (aB bV aH)) (ag F4 hr rfl U a4 a3 .nil bZ (aB (pv 0) aH))))) hS),?_⟩
  show um C 1 _ ts _ [some u,none] H;refine⟨λ_ _ _ _=>False,?_,λσ' H' dd _ z=>z.elim⟩;refine⟨(by show 1<=sizeLine;decide),λa ha=> ?_⟩;have R:aE H (upd H a (.lst [.str (Str.ofString "factors")])):=(aE.refl H).upd ha;have r0:Rp K H false (.tup (c.map .str)) H u:=by obtain⟨_,_,e,a,_⟩:=N;cases e;exact a
  refine⟨u,rfl,_,_,.cons ((r0.mono R).entry (λz=>by cases z)) .nil,e4,λu' H' M ru=> ?_⟩;obtain⟨b,us,rfl,nw,sb,rb⟩:=Rp.lst.mp ru;have eu:=aJ.ints.mp rb;subst eu;refine⟨a,b,_,_,rfl,rfl,bJ.of (M _ _ aD),sb,(by rw[Kr,l8];show 9<=sizeLine;decide),λz hz=> ?_⟩;have X:=R.trans M;refine q _ _ (X.upd (o:=.lst ([.str (Str.ofString "factors")]++l.map .int)) (X.free hz)) (Rp.lst.mpr ⟨z,_,rfl,λ_=>⟨X.free hz,aD⟩,bJ.of aD,.cons (Rp.str.mpr rfl) (aJ.ints.mpr rfl)⟩)
 ·refine⟨_,aO (n6 (C:=C) (D:=C) (i:=1) rfl rfl rfl nd rfl rfl rfl J.cs.kC.nm (J.cs.kC.exm J.cs.sC J.sX) (λE pn W hp=>aO (bc (bN (uN (K:=K) rfl) (dv (aB bV aH)) (qP X4 hr rfl S.nm S.fn.kp S.bd .nil hp (aB (pv 0) aH))))) hS),?_⟩
  show um C 1 _ ts _ [some u,none] H;refine⟨λσ' cls dd H' =>σ' =[some u,none]/\∃d t,dd=some d/\aE H H' /\H' d=some (.xd [("rows",t)])/\∃Hx,Rp K Hx true (.tup [.int (i:Nat),.int (j:Nat)]) H' t,?_,λσ' H' dd _ z e he=> ?_⟩
  ·refine⟨(by show 1<=sizeLine;decide),λa ha=> ?_⟩
   have R:aE H (upd H a (.lst [.str (Str.ofString "factors")])):=(aE.refl H).upd ha;have r0:Rp K H false (.tup (c.map .str)) H u:=by obtain⟨_,_,e,a,_⟩:=N;cases e;exact a
   exact⟨u,rfl,c,i,j,bd,.cons ((r0.mono R).entry (λz=>by cases z)) .nil,cr,λH' d t M Y ht=>⟨rfl,d,t,rfl,R.trans M,Y,_,ht⟩⟩
  ·obtain⟨rfl,d,t,rfl,M,Y,Hx,rt⟩:=z
   have T:aE H' (upd H' e (XO C (some d) e)):=(aE.refl H').upd he;refine rS e d t _ _ (upd H' e (XO C (some d) e)) Hx i j rfl (.inr aD) (T _ _ Y) (rt.mono T) λH2 z s2 z0 hz=> ?_;have sl:=(M.trans T).trans s2;exact q _ _ sl (Rp.lst.mpr ⟨z,_,rfl,λ_=>⟨(M.trans T).free z0,hz⟩,bJ.of hz,.cons (Rp.str.mpr rfl) ((aJ.ints (xs:=[(i:Int),(j:Int)])).mpr rfl)⟩)
end
set_option tactic.hygienic true in
theorem vW{k n:Nat}(d:P f=some ⟨n+1,1,.cons (.drop (.call 20020 (.cons (.con .non) .nil))) (.cons (.hand 1 g) .nil)⟩)(h:aC P (k+1) f a=some r):21<=k/\∃v,a=[v]/\g [v]=some r:=by
 rw[eX,d,K2]at h
 split at h
 case isFalse=>cases h
 rename_i c;obtain⟨v,rfl⟩:=AE (show a.length=1 from c);obtain⟨_,_,i,e,h⟩:=lP h;cases i;refine⟨Jc e,v,rfl,?_⟩;have h:bv (((g [v]).map Fl.rt).bind λf=>d7 f λτ1=>some (.nx τ1))=some r:=h;cases b:g [v]with
 |none=>rw[b]at h;cases h|some y =>rw[b]at h;exact h
section
open PySem.Spec PyProof.Rows L2.XN XE
theorem yr:ak Ki ["text"] (aI CA):=⟨rfl,rfl,rfl,by decide +kernel,rfl,by decide +kernel,by decide +kernel⟩
theorem yk:ak N224 ["_law_thing"] (aI Fb):=⟨rfl,rfl,rfl,by decide +kernel,rfl,by decide +kernel,by decide +kernel⟩
section
variable{K:W.Frag}{mg:Str->Option Value}{f fR f8 C D c1 c2 c3 fI:Addr}{fd fdR fd8 fdI:FuncData}(hG:∀x v,G.lookup x=some v->∃u w,mg x=some u/\RelV w u/\∀Hi n H,Rp K Hi n v H w)(hB:∀x,B.contains x=true->mg x=none)(cl:ED K mg C D c1 c2 c3 fI fdI)
include hG hB cl
theorem JJ(I:eh K mg "report" CA ["text"] f8 fd8)(c:eh K mg "read_board" ux ["text"] fR fdR){k:Nat}
  (j:∀y g,F.lookup y=some g->∃b m l,mg y=some (.ref b)/\W.keepIn K (.ref b)=true/\Binds K m l []/\aq p w K mg a dI (k+3) b m l (kB K (aC P (k+3) g))):aq p w K mg a (sN p w c1) (k+5) f8 fd8 ["text"] (Iv K c1):=by
 have r:=rb32 hG hB cl c j;obtain⟨O,R,M,A,N,L,o,ct,x,rfl,n,e⟩:=I.fn.ex;refine my n e yr (λvs H Q E h=> ?_) λA outer s H vs Q E hr h=> ?_
 ·obtain⟨v,d,_⟩:=h
  obtain⟨u,rfl⟩:=p9 d;rfl
 ·obtain⟨v,d,J,q⟩:=h
  obtain⟨u,rfl⟩:=p9 d;refine⟨_,aF (ao (i:=1) yr.nd rfl (Or.inl rfl) (ag r hr rfl c.nm c.fn.kp c.bd .nil (vF λ_ _ z=>z) (aB (pv 0) aH))) ay,?_⟩;exact⟨u,rfl,v,d,J,q⟩
theorem DZ(D8:eh K mg "report" CA ["text"] f8 fd8)(DR:eh K mg "read_board" ux ["text"] fR fdR)(Df:eh K mg "_law_refused" Fb ["_law_thing"] f fd)(p:Program)(w:World)(base:Heap)(k:Nat)
  (below:∀j,j<=k->∀y g,F.lookup y=some g->∃b gd qs,mg y=some (.ref b)/\PySem.W.keepIn K (.ref b)=true/\Binds K gd qs []/\aq p w K mg base dI j b gd qs (kB K (aC P j g))):aq p w K mg base dI (k+1) f fd ["_law_thing"] (kB K (aC P (k+1) 224)):=by
 refine Df.fn.ok yk (λvs H Q E h=> ?_) (λcdv A outer s H vs Q E hr h=> ?_)
 ·obtain⟨pvs,r,h1,h2,_⟩:=h
  rw[<- h1.len];obtain⟨_,_,rfl,_⟩:=vW (n:=2) rfl h2;rfl
 obtain⟨pvs,r,h1,h2,q⟩:=h;obtain⟨hk,v,rfl,hg⟩:=vW (n:=2) rfl h2;obtain⟨rfl,v',ev,nb⟩:=y7 hg;cases ev;obtain⟨k,rfl⟩:∃k',k=k' +21:=⟨k-21,by omega⟩;have XR:=(JJ (k:=k) hG hB cl D8 DR (below (k+3) (by omega))).mono (show k+5<=k+21 by omega);have nd:=yk.nd;obtain⟨u,rfl⟩:=p9 h1;have kn:=cl.n1;have hi:=hB "isinstance" rfl;have hv:=hB "ValueError" rfl
 have isR:∀{Y:Cx}{bb:Bool}{u:V}{v:Value},Y.K=K->(∀z,RelV u z->z=v)->PySem.W.kitOne K (.ref c1) v=some bb->bO Y (.builtin "isinstance") (λxs H Q=>∃e dd,xs=[.ref e,u]/\Bb H c1 dd e/\(∀d,dd=some d->∃fs,H d=some (.xd fs))/\Q (.bl bb) H) :=
  λh1 h2 h6=>A6 (by rw[h1];exact kn.xc) h2 (by rw[h1];exact h6)
 refine⟨_,aF (ao (i:=1) nd rfl (Or.inl rfl) zU) (aF (n6 (C:=c1) (D:=D) (i:=2) rfl rfl rfl nd rfl rfl rfl cl.cs.kD.nm (cl.cs.kD.exm cl.s1 cl.cs.sB) (λE pn W hp=>aO (eP (qP XR hr rfl D8.nm D8.fn.kp D8.bd .nil hp (aB (pv 0) aH)))) (λe dd pn=>aO (ao (i:=1) nd rfl (Or.inl rfl) (pv 2)))) (aF (gW (PW.pt (zE (ni (nh (bQ (isR (u:=.ref c1) rfl (λv z=>z) kn.k1) rfl hi Nl (aB (pv 1) (aB (iT (v:=.ref c1) rfl cl.cs.k1.nm rfl) aH))))) (tI (ni (nh (bQ (isR (u:=.ty "ValueError") rfl (λv z=>z) kn.kV) rfl hi Nl (aB (pv 1) (aB (ET (n:="ValueError") rfl hv rfl) aH)))))))) ay bF) (aO (bc (kx (oB (bQ (isR (u:=.ref c2) rfl (λv z=>z) kn.k2) rfl hi Nl (aB (pv 1) (aB (iT (v:=.ref c2) rfl cl.cs.k2.nm rfl) aH)))) (kx (oB (bQ (isR (u:=.ref C) rfl (λv z=>z) kn.k3) rfl hi Nl (aB (pv 1) (aB (iT (v:=.ref C) rfl cl.cs.kC.nm rfl) aH)))) (tJ (oB (bQ (isR (u:=.ref c3) rfl (λv z=>z) kn.k4) rfl hi Nl (aB (pv 1) (aB (iT (v:=.ref c3) rfl cl.cs.k3.nm rfl) aH))))))))))),?_⟩
 show um c1 2 _ _ _ [some u,some .non,none] H;refine⟨λσ' cls dd H' =>σ' =[some u,some .non,none]/\dd=none/\aE H H',?_,λσ' H' dd _ z e he=> ?_⟩
 ·exact⟨u,rfl,v,h1,nb,λH' s' =>⟨rfl,rfl,s'⟩⟩
 ·obtain⟨rfl,rfl,s'⟩:=z
  have se:aE H' (upd H' e (XO c1 none e)):=(aE.refl H').upd he;refine⟨_,rfl,?_⟩;have ie:Bb (upd H' e (XO c1 none e)) c1 none e:=.inr aD;have hd:∀d:Addr,(none:Option Addr)=some d->∃fs,upd H' e (XO c1 none e) d=some (.xd fs):=λd z=>by cases z
  refine⟨_,rfl,e,none,rfl,ie,hd,true,rfl,ij ⟨_,rfl,e,none,rfl,ie,hd,true,rfl,ij ?_⟩⟩;refine⟨_,rfl,e,none,rfl,ie,hd,false,rfl,true,rfl,gP ⟨_,rfl,e,none,rfl,ie,hd,false,rfl,true,rfl,gP ⟨_,rfl,e,none,rfl,ie,hd,false,rfl,?_⟩⟩⟩;exact q _ _ (s'.trans se) (Rp.bl.mpr rfl)
end
end
section
open PySem.Spec PyProof.Rows L2.XN XE
def lm(l:Addr)(H a :Hp):Prop:=(∃c:List Int,a l=some (.lst (c.map V.int)))/\∀b o,b≠l->H b=some o->a b=some o
theorem lm.trans(h:lm l H a)(k:lm l a c):lm l H c:=⟨k.1,λb o n e=>k.2 b o n (h.2 b o n e)⟩
theorem lm.same(h:lm l H a)(k:aE a c):lm l H c:=⟨h.1.imp λ_ e=>k _ _ e,λb o n e=>k _ _ (h.2 b o n e)⟩
theorem lm.of{ns:List Int}(e:H l=some (.lst (ns.map V.int)))(k:aE H a):lm l H a :=⟨⟨ns,k _ _ e⟩,λb o _ e=>k _ _ e⟩
theorem lm.free{d:List Int}(h:lm l H c)(e:H l=some (.lst (d.map V.int)))(a:c b=none):H b=none:=by
 cases z:H b with
 |none=>rfl|some o =>
  by_cases n:b=l
  ·obtain⟨f,q⟩:=h.1
   rw[n,q]at a;cases a
  ·rw[h.2 b o n z]at a
   cases a
def JB:Sp:=λvs H Q _=>∃(l:Addr)(a:List Int),vs=[.ref l]/\H l=some (.lst (a.map V.int))/\∀(n:Int) H',lm l H H' ->Q (.int n) H'
theorem Fa:ak N220 ["_law_drawn"] (aI p8):=⟨rfl,rfl,rfl,by decide +kernel,rfl,by decide +kernel,by decide +kernel⟩
theorem kI{K:W.Frag}{i:FuncData}(j:eh K g "_law_next" p8 ["_law_drawn"] f i){p:Program}{w:World}{base:Heap}{k:Nat}:aq p w K g base dI (k+1) f i ["_law_drawn"] JB:=by
 refine j.fn.ok Fa (λvs H Q E h=> ?_) (λcdv A outer s H vs Q E hr h=> ?_)
 ·obtain⟨l,b,rfl,_⟩:=h
  rfl
 obtain⟨l,b,rfl,d,q⟩:=h;refine⟨_,aF (gW (nu (tN (Hi:=H) hr.units) (pv 0) (dv aH) (tU _)) (aO (bc bA)) bF) (aO (bc (tK MM PySem.F.slot_list_pop PySem.F.type_list_pop GP (pv 0) rfl rfl))),?_⟩;refine⟨_,rfl,(by show 0<=sizeLine;decide),λa ha=> ?_⟩;have c:aE H (upd H a (.lst [])):=(aE.refl H).upd ha;refine⟨.lst (b.map .int),.lst [],IR.Ag 11 b,rfl,Rp.lst.mpr ⟨l,_,rfl,(λz=>by cases z),bJ.of (c _ _ d),aJ.ints.mpr rfl⟩,Rp.lst.mpr ⟨a,[],rfl,(λz=>by cases z),bJ.of aD,.nil⟩,_,rfl,?_⟩;cases b with
 |nil=>exact gP (q 0 _ (lm.of d c))|cons m b =>refine ij ⟨_,rfl,.inl ⟨rfl,_,bJ.of (c _ _ d)⟩,l,((m::b).map V.int),((m::b).map V.int)[((m::b).map V.int).length-1]'(by simp),rfl,rfl,c _ _ d,by simp,?_⟩;rw[NG,List.map_dropLast.symm];exact q _ _ ⟨⟨_,aD⟩,λb o n e=>by rw[aA n];exact c _ _ e⟩
end
section
open PySem.Spec PyProof.Rows L2.XN XE
def JA:Sp:=λvs H Q _=>∃(l:Addr)(a:List Int)(m:Nat),vs=[.ref l,.int m]/\m<=8/\H l=some (.lst (a.map V.int))/\∀(o:List Int)(z:Addr) H',lm l H H' ->H z=none->H' z=some (.lst (o.map V.int))->o.length=m->Q (.ref z) H'
theorem yo:ak N221 ["_law_drawn","_law_many"] (aI wf):=⟨rfl,rfl,rfl,by decide +kernel,rfl,by decide +kernel,by decide +kernel⟩
theorem zd{K:W.Frag}(x:d "range"=none)(j:eh K d "_law_next" p8 ["_law_drawn"] Y y)(S:eh K d "_law_order" wf ["_law_drawn","_law_many"] f J){p:Program}{w:World}{base:Heap}{k:Nat}:aq p w K d base dI (k+2) f J ["_law_drawn","_law_many"] JA:=by
 have R:=kI j (p:=p) (w:=w) (base:=base) (k:=k);refine S.fn.ok yo (λvs H Q E h=> ?_) (λcdv A outer s H vs Q E hr h=> ?_)
 ·obtain⟨l,T,m,rfl,_⟩:=h
  rfl
 obtain⟨l,T,m,rfl,Z,I,q⟩:=h;have C:=yo.nd
 refine⟨_,aF (ao (i:=2) C rfl (Or.inl rfl) (dv aH)) (aF (du Lq rfl (cD rfl x (aB (pv 1) aH)) (av (i:=3) C rfl (Or.inl rfl)) (aO (eP (gX MM PySem.F.slot_list_insert PySem.F.type_list_insert ma (pv 2) (aB (bN dG (ag R hr rfl j.nm j.fn.kp j.bd .nil bZ (aB (pv 0) aH)) (bN gr (pv 3) bA)) (aB (pv 3) aH)))))) (aO (bc (pv 2)))),?_⟩
 refine⟨(by show 0<=sizeLine;decide),λz hz=> ?_⟩;have O:aE H (upd H z (.lst [])):=(aE.refl H).upd hz;have D:z≠l:=λe=>by rw[e,I]at hz;cases hz
 refine⟨_,rfl,m,rfl,by omega,by omega,?_⟩;refine eF (lo:=0) (n:=(m:Int).toNat) (λi u G=>∃(a:Option V)(o:List Int),u=[some (.ref l),some (.int m),some (.ref z),a]/\lm l H G/\G z=some (.lst (o.map V.int))/\o.length=i) ⟨_,[],rfl,lm.of I O,aD,rfl⟩ ?_ ?_
 ·rintro i u G hi ⟨a,o,rfl,r,g,c⟩
  have U:((0:Int)+(i:Nat))=((i:Nat):Int):=by omega
  rw[U];obtain⟨X,N⟩:=r.1;refine⟨_,rfl,.inl ⟨rfl,_,bJ.of g⟩,_,rfl,l,X,rfl,N,λn G' cg' =>⟨_,rfl,_,_,rfl,rfl,_,_,rfl,rfl,by omega,_,rfl,?_⟩⟩;have v :=cg'.2 _ _ D g;have M:0<=n%((i:Int)+1):=Mu _ (by omega);have h1:n%((i:Int)+1)<(i:Int)+1:=MV _ (by omega);refine⟨z,_,_,_,rfl,rfl,v,M,by rw[Kr,c];omega,by rw[Kr,c];show i<16777216;omega,?_⟩;refine⟨_,o.take (n%((i:Int)+1)).toNat++(i:Int)::o.drop (n%((i:Int)+1)).toNat,rfl,?_,?_,?_⟩
  ·have L:=r.trans cg'
   exact⟨L.1.imp λ_ e=>by rw[aA (MC D)];exact e,λb o n e=>by rw[aA (aG e hz)];exact L.2 b o n e⟩
  ·rw[aD,LI,K8,Mv,OA]
  ·rw[K7,LK,Ln,ML,c];omega
 ·rintro u G ⟨a,o,rfl,r,g,c⟩
  exact⟨_,rfl,q o z G r hz g (by rw[c];omega)⟩
end
theorem DM(x:Int)(l:List Int):bU .In (.int x) (.lst (l.map .int))=some (l.contains x):=by
 show vV _ _=_;unfold vV;rw[K5 ⟨rfl,by rw[NH,LL];intro y _;rfl⟩,List.any_map]
 congr 1
 rw[L7,MR,Lh]
 constructor
 ·rintro⟨y,a,e⟩
  rw[<- LJ e];exact a
 ·intro a
  exact⟨x,a,by show decide (x=x)=true;exact LU rfl⟩
theorem yb{cd:Nat->List PV->Option PV}{m:Bool}{a0 a1 a3 a4 a5:TV}(w:Nat)(w8:w<=8)(so:List Int) :
  ∃z:Str,aQ cd (.mth .join (.con (.str (Str.ofString ""))) (.cons (.lc (.ix (.con (.str (Str.ofString ".x"))) (.bf .int (.cons (.cmp .In (.var 0) (.var 1)) .nil))) (.rng (.cons (.var 2) .nil)) .no [6]) .nil)) [a0,a1,.frz (.int (w:Nat)) true,a3,a4,a5,.frz (.lst (so.map .int)) m]=some (sc (.str z))/\z.length=w/\∀c∈z.cps.toList,c=120\/c=46:=by
 obtain⟨cs,hcs⟩:∃cs,cs=(List.range w).map λc:Nat=>if so.contains (0+c)then 120 else 46:=⟨_,rfl⟩
 refine⟨⟨cs.toArray⟩,?_,by show cs.toArray.size=w;rw[hcs];simp,λc hc=> ?_⟩
 ·walk_at "ev"
  rw[tF (by omega),Lj,K2,K5 (by simp;omega)];rw[bC (G:=λc:Nat=>PV.str ⟨#[if so.contains (0+c)then 120 else 46]⟩) (λc hc=>by rw[DM];cases so.contains (0+c)<;>rfl)]
  walk_at "ev";have e:(List.range w).map (λc:Nat=>PV.str ⟨#[if so.contains (0+c)then 120 else 46]⟩)=cs.map λc=>PV.str ⟨#[c]⟩:=by rw[hcs,Lc];rfl
  rw[e,tj (by rw[hcs];simp;omega)]
 ·rw[List.toList_toArray,hcs]at hc
  obtain⟨j,_,rfl⟩:=LD.mp hc
  split;exact .inl rfl;exact .inr rfl
section
open PySem.Spec PyProof.Rows L2.XN XE
theorem JI{K:W.Frag}{G:Hp}:aY K G [] [] [] G:=⟨aE.refl _,λ_ h=>(by cases h),λ_ _ _ e=>(by cases e),λ_ _ _ _ _ e=>(by cases e),λ_ _ _ _ _ _ _ e=>(by cases e)⟩
theorem aY.consU{K:W.Frag}{c:Hp}{O:List Addr}{d:En}{a:L2.St}{H:Hp}{u:Option V}(R:aY K c O d a H):aY K c O (.un::d) (u::a) H where
 same:=R.same
 own:=R.own
 frz:=λi v n e=>by
  cases i with
  |zero=>cases e|succ i=>exact R.frz i v n e
 obs:=λi t b xs n e ht=>by
  cases i with
  |zero=>cases e;cases ht|succ i=>exact R.obs i t b xs n e ht
 dst:=λi j t t' x y l e1 h1 e2 h2 g1 g2=>by
  cases i with
  |zero=>cases e1;cases h1|succ i =>
   cases j with
   |zero=>cases e2;cases h2|succ j=>rw[R.dst i j t t' x y l e1 h1 e2 h2 g1 g2]
def Ix(l:Addr)(w n:Nat)(H:Hp)(Q:VK):Prop:=∀(a:List Str)(z:Addr) H',lm l H H' ->H z=none->H' z=some (.tup (a.map V.str))->a.length=n->(∀r∈a,r.length=w/\∀c∈r.cps.toList,c=120\/c=46)->Q (.ref z) H'
def I0:Sp:=λvs H Q _=>∃(l:Addr)(a:List Int)(n w:Nat),vs=[.ref l,.int n,.int w]/\n<=8/\w<=8/\H l=some (.lst (a.map V.int))/\Ix l w n H Q
theorem nX:ak Hw ["_law_drawn","_law_rows","_law_columns"] (aI tE):=⟨rfl,rfl,rfl,by decide +kernel,rfl,by decide +kernel,by decide +kernel⟩
abbrev KI:Ct:=⟨Hw,(aI tE).names,F,G,B,[]⟩
theorem ya{K:W.Frag}{fn:Addr}(hG:∀x v,G.lookup x=some v->∃u w,C x=some u/\RelV w u/\∀Hi n H,Rp K Hi n v H w)(hB:∀x,B.contains x=true->C x=none)(S:eh K C "_law_next" p8 ["_law_drawn"] fn a6)(DO:eh K C "_law_order" wf ["_law_drawn","_law_many"] fo a8)(Df:eh K C "_law_stair" tE ["_law_drawn","_law_rows","_law_columns"] f fd){k:Nat}
  (a7:∀y g,F.lookup y=some g->∃b gd Z,C y=some (.ref b)/\W.keepIn K (.ref b)=true/\Binds K gd Z []/\aq p w K C d dI (k+2) b gd Z (kB K (aC P (k+2) g))):aq p w K C d dI (k+3) f fd ["_law_drawn","_law_rows","_law_columns"] I0:=by
 have FN:=(kI S (p:=p) (w:=w) (base:=d) (k:=k)).mono (show k+1<=k+2 by omega);have FO:=zd (hB "range" rfl) S DO (p:=p) (w:=w) (base:=d) (k:=k);refine Df.fn.ok nX (λvs H Q E h=> ?_) (λcdv A outer s H vs Q E j h=> ?_)
 ·obtain⟨l,ns,n,w,rfl,_⟩:=h
  rfl
 obtain⟨l,ns,n,I,rfl,n8,w8,U,q⟩:=h;have Y:=nX.nd
 have C0:bS (aC P (k+2)) (dg dI p w K C d Hw "_law_stair" (aI tE) f cdv A outer s H E).nox KI :=
  ⟨rfl,nX.nd,rfl,nX.kind,rfl,hG,hB,λy g hy=>by obtain⟨b,gd,Z,z1,z2,z3,z4⟩:=a7 y g hy;exact⟨k+2,b,gd,Z,z4,j,z1,z2,z3⟩,Lq,j.units⟩
 refine⟨_,aF (ao (i:=3) Y rfl (Or.inl rfl) (ag FO j rfl DO.nm DO.fn.kp DO.bd .nil bZ (aB (pv 0) (aB (pv 2) aH)))) (aF (ao (i:=4) Y rfl (Or.inl rfl) (dv aH)) (aF (du Lq rfl (cD rfl (hB "range" rfl) (aB (pv 1) aH)) (av (i:=5) Y rfl (Or.inl rfl)) (aF (ao (i:=6) Y rfl (Or.inr rfl) (kr nS (pv 3) oA (n9 (bN dG (ag FN j rfl S.nm S.fn.kp S.bd .nil bZ (aB (pv 0) aH)) (bN gr (pv 2) bA))))) (aO (eP (gX MM N8 N7 fh (pv 4) (aB aT aH)))))) (aO (bc (bY cH rfl (hB "tuple" rfl) Mi (aB (pv 4) aH)))))),?_⟩
 refine⟨_,rfl,_,rfl,l,ns,I,rfl,w8,U,λo zo H1 cg1 ho1 hz1 ol=> ?_⟩;refine⟨(by show 0<=sizeLine;decide),λy hy=> ?_⟩;have s1:aE H1 (upd H1 y (.lst [])):=(aE.refl H1).upd hy;have zy:zo≠y:=λe=>by rw[<- e,hz1]at hy;cases hy
 have L:H y=none:=cg1.free U hy;have zl:zo≠l:=λe=>by rw[e,U]at ho1;cases ho1
 have yl:y≠l:=λe=>by rw[e,U]at L;cases L
 refine⟨_,rfl,n,rfl,by omega,by omega,?_⟩
 refine eF (lo:=0) (n:=(n:Int).toNat) (λi σ G=>∃(a b:Option V)(D:List Str),σ=[some (.ref l),some (.int n),some (.int I),some (.ref zo),some (.ref y),a,b]/\lm l H G/\G zo=some (.lst (o.map V.int))/\G y=some (.lst (D.map V.str))/\D.length=i/\∀r∈D,r.length=I /\∀c∈r.cps.toList,c=120\/c=46)
  ⟨_,_,[],rfl,cg1.same s1,s1 _ _ hz1,aD,rfl,λr j=>(by cases j)⟩ ?_ ?_
 ·rintro i σ G hi ⟨a,b,D,rfl,O,gz,gy,ll,hs⟩
  obtain⟨ms,gl⟩:=O.1;refine⟨_,rfl,_,rfl,l,ms,rfl,gl,λm G1 c1=>⟨_,rfl,_,_,rfl,rfl,_,_,rfl,rfl,by omega,_,rfl,zo,_,rfl,bJ.of (c1.2 _ _ zl gz),λx hx=> ?_⟩⟩;have s2:aE G1 (upd G1 x (.lst (lQ (o.map V.int) none (some (m%((I :Int)+1)))))):=(aE.refl G1).upd hx;obtain⟨M,a2⟩:∃M:List Int,lQ (o.map V.int) none (some (m%((I :Int)+1)))=M.map V.int:=by unfold lQ;rw[<- OA,<-Mv];exact⟨_,rfl⟩
  rw[a2]at s2 ⊢;have J:=s2 _ _ (c1.2 _ _ yl gy);obtain⟨N,X⟩:∃N,N=upd G1 x (.lst (M.map V.int)):=⟨_,rfl⟩;have gx:N x=some (.lst (M.map V.int)):=by rw[X];exact aD
  rw[<- X]at s2 J ⊢
  have R:aY K N [] [.un,.un,.frz (.int I) true,.un,.un,.un,.frz (.lst (M.map .int)) false] [some (.ref l),some (.int n),some (.int I),some (.ref zo),some (.ref y),some (.int (0+(i:Nat))),some (.ref x)] N :=
   aY.consU (aY.consU (aY.consF (aY.consU (aY.consU (aY.consU (aY.consF JI (Rp.lst.mpr ⟨x,_,rfl,(λz=>by cases z),bJ.of gx,aJ.ints.mpr rfl⟩))))) (Rp.int.mpr rfl)))
  obtain⟨z,ez,zw,zs⟩:=yb (cd:=aC P (k+2)) (m:=false) (a0:=.un) (a1:=.un) (a3:=.un) (a4:=.un) (a5:=.un) I w8 M;refine⟨_,rfl,.inl ⟨rfl,_,bJ.of J⟩,?_⟩;refine e_w (n:=80) C0 (by kernel_rfl) ez R λu G3 s3 ok=> ?_;have eu:u=.str z:=ae.str R s3 ok rfl;subst eu;have T:=s2.trans s3;refine⟨y,_,_,rfl,rfl,s3 _ _ J,by rw[Kr,ll];show i<16777216;omega,?_⟩;have c3:=(O.trans c1).same T;refine⟨_,_,D++[z],rfl,⟨c3.1.imp λ_ e=>by rw[aA (MC yl)];exact e,λb o n e=>by rw[aA (aG e L)];exact c3.2 b o n e⟩,?_,?_,by rw[K7,ll];rfl,λr j=> ?_⟩
  ·rw[aA zy];exact T _ _ (c1.2 _ _ zl gz)
  ·rw[aD,LI];rfl
  ·rcases LP.mp j with j|j
   ·exact hs r j
   ·rw[LF.mp j];exact⟨zw,zs⟩
 ·rintro σ G ⟨a,b,D,rfl,O,gz,gy,ll,hs⟩
  refine⟨_,rfl,y,_,rfl,.inl ⟨bJ.of gy,λt ht=> ?_⟩⟩;have st:aE G (upd G t (.tup (D.map V.str))):=(aE.refl G).upd ht;exact q D t _ (O.same st) (O.free U ht) aD (by rw[ll];omega) hs
end
section
open PySem.Spec PyProof.Rows L2.XN XE
def Iz:Sp:=λvs H Q _=>∃(l:Addr)(a:List Int),vs=[.ref l]/\H l=some (.lst (a.map V.int))/\∀n w,1<=n->n<=8->1<=w->w<=8->Ix l w n H Q
theorem yn:ak N223 ["_law_drawn"] (aI B9):=⟨rfl,rfl,rfl,by decide +kernel,rfl,by decide +kernel,by decide +kernel⟩
theorem A7{K:W.Frag}{fn fs:Addr}(hG:∀x v,G.lookup x=some v->∃u w,mg x=some u/\RelV w u/\∀Hi n H,Rp K Hi n v H w)(hB:∀x,B.contains x=true->mg x=none)(DN:eh K mg "_law_next" p8 ["_law_drawn"] fn fdn)(DO:eh K mg "_law_order" wf ["_law_drawn","_law_many"] fo fdo)(DS:eh K mg "_law_stair" tE ["_law_drawn","_law_rows","_law_columns"] fs fds)(Df:eh K mg "_law_board" B9 ["_law_drawn"] f fd){k:Nat}
  (fns:∀y g,F.lookup y=some g->∃b gd qs,mg y=some (.ref b)/\W.keepIn K (.ref b)=true/\Binds K gd qs []/\aq p w K mg base dI (k+2) b gd qs (kB K (aC P (k+2) g))):aq p w K mg base dI (k+4) f fd ["_law_drawn"] Iz:=by
 have FN:=(kI DN (p:=p) (w:=w) (base:=base) (k:=k)).mono (show k+1<=k+3 by omega);have FS:=ya hG hB DN DO DS fns;refine Df.fn.ok yn (λvs H Q E h=> ?_) (λcdv A outer s H vs Q E hr h=> ?_)
 ·obtain⟨l,ns,rfl,_⟩:=h
  rfl
 obtain⟨l,ns,rfl,hl,q⟩:=h;have nd:=yn.nd;have hra:=hB "range" rfl
 refine⟨_,aF (ao (i:=1) nd rfl (Or.inl rfl) (bN gr bA (bN dG (ag FN hr rfl DN.nm DN.fn.kp DN.bd .nil bZ (aB (pv 0) aH)) bA))) (aF (ao (i:=2) nd rfl (Or.inl rfl) (bN gr bA (bN dG (ag FN hr rfl DN.nm DN.fn.kp DN.bd .nil bZ (aB (pv 0) aH)) bA))) (aF (ao (i:=3) nd rfl (Or.inr rfl) (bN dG (ag FN hr rfl DN.nm DN.fn.kp DN.bd .nil bZ (aB (pv 0) aH)) bA)) (aF (gW (nz (F8 (bN dG (ag FN hr rfl DN.nm DN.fn.kp DN.bd .nil bZ (aB (pv 0) aH)) bA) bA)) (aO (bc (ag FS hr rfl DS.nm DS.fn.kp DS.bd .nil bZ (aB (pv 0) (aB (pv 1) (aB (pv 2) aH)))))) bF) (aF (ao (i:=4) nd rfl (Or.inl rfl) (dv aH)) (aF (du Lq rfl (cD rfl hra (aB (pv 1) aH)) (av (i:=5) nd rfl (Or.inl rfl)) (aO (eP (gX MM N8 N7 fh (pv 4) (aB (gX Mm PySem.F.slot_str_join PySem.F.type_str_join vN bV (aB (vB (N' :=["_law_column","_law_drawn","_law_thick"]) (src:=[none,some 0,some 3]) rfl (cD rfl hra (aB (pv 2) aH)) ⟨⟨rfl,rfl,.inl rfl⟩,⟨rfl,rfl,.inl rfl⟩,True.intro⟩ rfl (by decide +kernel) (by decide +kernel) rfl) aH)) aH)))))
  (aO (bc (bY cH rfl (hB "tuple" rfl) Mi (aB (pv 4) aH))))))))),?_⟩
 refine⟨_,rfl,l,ns,rfl,hl,λm1 H1 c1=> ?_⟩;obtain⟨n1,h1⟩:=c1.1;have b1:∀m:Int,0<=m%8/\m%8<8:=λm=>⟨Mu _ (by decide),MV _ (by decide)⟩;obtain⟨nr,hnr⟩:∃nr:Nat,(1:Int)+m1%8=(nr:Int):=⟨(1+m1%8).toNat,by have:=b1 m1;omega⟩;refine⟨_,_,rfl,rfl,(by show(0:Int)<8;decide),_,_,rfl,rfl,?_⟩;dsimp only;rw[hnr];refine⟨_,rfl,l,n1,rfl,h1,λm2 H2 c2=> ?_⟩;obtain⟨n2,h2⟩:=c2.1;obtain⟨nc,hnc⟩:∃nc:Nat,(1:Int)+m2%8=(nc:Int):=⟨(1+m2%8).toNat,by have:=b1 m2;omega⟩;refine⟨_,_,rfl,rfl,(by show(0:Int)<8;decide),_,_,rfl,rfl,?_⟩;dsimp only;rw[hnc];refine⟨_,rfl,l,n2,rfl,h2,λm3 H3 c3=> ?_⟩;obtain⟨n3,h3⟩:=c3.1;refine⟨_,_,rfl,rfl,(by show(0:Int)<8;decide),?_⟩;refine⟨_,rfl,l,n3,rfl,h3,λm4 H4 c4=> ?_⟩;obtain⟨n4,h4⟩:=c4.1;have cA:lm l H H4:=((c1.trans c2).trans c3).trans c4;have r1:1<=nr/\nr<=8:=by have:=b1 m1;omega
 have r2:1<=nc/\nc<=8:=by have:=b1 m2;omega
 refine⟨_,_,rfl,rfl,(by show(0:Int)<3;decide),_,_,rfl,rfl,_,rfl,?_⟩;dsimp only
 split
 ·refine⟨_,rfl,_,rfl,_,rfl,l,n4,nr,nc,rfl,r1.2,r2.2,h4,λrows z H5 c5 hz e5 rl sg=> ?_⟩
  exact q nr nc r1.1 r1.2 r2.1 r2.2 rows z H5 (cA.trans c5) (cA.free hl hz) e5 rl sg
 ·refine⟨(by show 0<=sizeLine;decide),λy hy=> ?_⟩
  have s1:aE H4 (upd H4 y (.lst [])):=(aE.refl H4).upd hy;have hy0:H y=none:=cA.free hl hy;have yl:y≠l:=λe=>by rw[e,hl]at hy0;cases hy0
  refine⟨_,rfl,nr,rfl,by omega,by omega,?_⟩
  refine eF (lo:=0) (n:=(nr:Int).toNat) (λi σ G=>∃(a:Option V)(ls:List Str),σ=[some (.ref l),some (.int nr),some (.int nc),some (.int (m3%8)),some (.ref y),a]/\lm l H G/\G y=some (.lst (ls.map V.str))/\ls.length=i/\∀r∈ls,r.length=nc/\∀c∈r.cps.toList,c=120\/c=46)
   ⟨_,[],rfl,cA.same s1,aD,rfl,λr hr=>(by cases hr)⟩ ?_ ?_
  ·rintro i σ G hi ⟨a,ls,rfl,cg,gy,ll,hs⟩
   refine⟨_,rfl,.inl ⟨rfl,_,bJ.of gy⟩,?_⟩;obtain⟨ms,gl⟩:=cg.1;refine⟨rfl,_,rfl,nc,rfl,by omega,by omega,λx hx=> ?_⟩;have sx:aE G (upd G x (.lst [])):=(aE.refl G).upd hx;have xl:x≠l:=λe=>by rw[e,gl]at hx;cases hx
   refine⟨λj m ys G' =>m=nc-j/\j<=nc/\∃cs:List Nat,ys=cs.map (λc=>V.str ⟨#[c]⟩)/\cs.length=j/\(∀c∈cs,c=120\/c=46)/\lm l G G' /\G' x=some (.lst ys),⟨nc,rfl,LY _,[],rfl,rfl,(λc hc=>by cases hc),lm.of gl sx,aD⟩,?_⟩;rintro j m ys G1 ⟨rfl,hj,cs,rfl,cl,c2,cg1,gx⟩
   by_cases hlt:j<nc
   ·refine .inr ⟨(by show j<(nc:Int).toNat;omega),λv G2 yv=> ?_⟩
    obtain⟨rfl,rfl⟩:=yv;intro C s2 H2 fp clo;have ndc:(["_law_column","_law_drawn","_law_thick"]:List Str).Nodup:=by decide +kernel
    refine⟨mr 0,pk,_,av (i:=0) ndc rfl (Or.inl rfl),fL,ku AQ bV (bY jZ rfl (hB "int" rfl) Na (aB (F7 (JQ (bN dG (ag FN hr rfl DN.nm DN.fn.kp DN.bd .nil bZ (aB (pv 1) aH)) bA) (pv 2))) aH)) (λ_ _=>rfl),?_⟩;refine⟨⟨rfl,λj v e=> ?_⟩,?_⟩
    ·match j,e with
     |1,e=>exact e|2,e=>exact e
    unfold pk;dsimp only;rw[K5 rfl];obtain⟨ms1,gl1⟩:=cg1.1;have at_:∀b:Bool,dH (Str.ofString ".x").cps.toList (if b=true then 1 else 0)=some (if b=true then 120 else 46):=by decide +kernel
    refine⟨_,rfl,l,ms1,rfl,gl1,λn G3 c3=>⟨_,_,rfl,rfl,(by show(0:Int)<8;decide),_,rfl,_,_,rfl,rfl,.inr ⟨_,rfl,_,_,_,rfl,rfl,(by decide +kernel),at_ _,?_⟩⟩⟩;refine⟨c3.2 _ _ xl gx,by rw[Kr,cl];show j<16777216;omega,nc-(j+1),by omega,rfl,by omega,cs++[_],by rw[LI];rfl,by rw[K7,cl];rfl,λc hc=> ?_,?_,aD⟩
    ·rcases LP.mp hc with hc|hc
     ·exact c2 c hc
     ·rw[LF.mp hc]
      split;exact .inl rfl;exact .inr rfl
    ·have c4:=cg1.trans c3
     exact⟨c4.1.imp λ_ e=>by rw[aA (MC xl)];exact e,λb o n e=>by rw[aA (aG e hx)];exact c4.2 b o n e⟩
   ·refine .inl ⟨(by show(nc:Int).toNat<=j;omega),?_⟩
    have ej:j=nc:=by omega
    refine⟨_,x,cs.map λc=>(⟨#[c]⟩:Str),rfl,rfl,.inl (bJ.of (by rw[gx,Lc];rfl)),?_,?_⟩
    ·exact LM (Nat.le_of_eq (wN cs)) (by omega)
    rw[show Txt.join (Str.ofString "") (cs.map λc=>(⟨#[c]⟩:Str))=Ez cs from Jh cs];have gy1:=cg1.2 _ _ yl gy;have c5:=cg.trans cg1;refine⟨y,_,_,rfl,rfl,gy1,by rw[Kr,ll];show i<16777216;omega,?_⟩;refine⟨_,ls++[Ez cs],rfl,⟨c5.1.imp λ_ e=>by rw[aA (MC yl)];exact e,λb o n e=>by rw[aA (aG e hy0)];exact c5.2 b o n e⟩,?_,by rw[K7,ll];rfl,λr hr=> ?_⟩
    ·rw[aD,LI];rfl
    ·rcases LP.mp hr with hr|hr
     ·exact hs r hr
     ·rw[LF.mp hr]
      exact⟨by show cs.toArray.size=nc;rw[K1];omega,λc hc=>c2 c (by simpa [Ez]using hc)⟩
  ·rintro σ G ⟨a,ls,rfl,cg,gy,ll,hs⟩
   refine⟨_,rfl,y,_,rfl,.inl ⟨bJ.of gy,λt ht=> ?_⟩⟩;have st:aE G (upd G t (.tup (ls.map V.str))):=(aE.refl G).upd ht;exact q nr nc r1.1 r1.2 r2.1 r2.2 ls t _ (cg.same st) (cg.free hl ht) aD (by rw[ll];omega) hs
end
section
variable{cf:Nat->List PV->Option PV}{τ:En}
theorem Ar{a b:IE}{z y:Str}(d:aQ cf a τ=some (.frz (.str z) true))(c:aQ cf b τ=some (.frz (.str y) true))(e:z.length+y.length<=5000):aQ cf (.bin .Add a b) τ=some (.frz (.str (z++y)) true):=by rw[cS,d,c];show(if z.length+y.length<=16777216 then some (RV.frz (.str (z++y)) true)else none)=_;rw[K5 (by omega)]
theorem As{a:IE}{r:RV}{ys:List Str}(c:aQ cf a τ=some r)(b:r.val=.tup (ys.map .str)\/r.val=.lst (ys.map .str))(d:(ys.map (·.length)).sum+ys.length<=5000):aQ cf (.mth .join (.con (.str "\n")) (.cons a .nil)) τ=some (.frz (.str (Str.join NL ys)) true):=by
 rw[cP,cQ,pV,pU,c];show ib .join (.frz (.str "\n") true) [r]=_;have e:(if(ys.map (·.length)).sum+ys.length*Str.length "\n"<=16777216 then some (RV.frz (.str (bP "\n" ys)) true)else none)=some (.frz (.str (Str.join NL ys)) true):=by rw[K5 (by show(ys.map (·.length)).sum+ys.length*1<=16777216;omega),ip];rfl
 unfold ib
 rcases b with b|b
 ·simp only[b,bT]
  rw[dY];exact e
 ·simp only[b,bT]
  rw[dY];exact e
end
abbrev Pt(p:Str):Prop:=10∉p.cps.toList/\p.length<=30
theorem Pt.app(h:Pt p)(b:10∉q.cps.toList)(a:p.length+q.length<=30):Pt (p++q):=by
 refine⟨λz=> ?_,by rw[Lw];exact a⟩;have z:10∈(p.cps++q.cps).toList:=z;rw[Np]at z
 rcases LP.mp z with z|z
 ·exact h.1 z
 ·exact b z
theorem zu(c:a≠[])(b:∀p∈a,Pt p)(e:a.length<=20)(d:¬UM.aW 8 a):lq (.str (Str.join NL a))=true:=by refine zx c (λp hp=>(b p hp).1) ?_ d;have:=lF λp hp=>(b p hp).2;omega
theorem aW.pt(b:UM.aW 8 a):∀p∈a,Pt p:=λp hp=>by obtain⟨k,_,d,c⟩:=b.wide;exact⟨b.free p hp,by rw[c p hp];omega⟩
theorem Fw(b:UM.aW 8 a)(c:Pt p)(i j:Nat):∀q∈a.take i++[p]++a.drop j,Pt q:=λq hq=>by
 rcases LP.mp hq with z|z
 ·rcases LP.mp z with z|z
  ·exact aW.pt b q (M6 z)
  ·rw[LF.mp z]
   exact c
 ·exact aW.pt b q (Nj z)
theorem CY(b:UM.aW 8 a)(c:Pt p):∀q∈a++[p],Pt q:=λq hq=>by
 rcases LP.mp hq with z|z
 ·exact aW.pt b q z
 ·rw[LF.mp z]
  exact c
theorem vM{p:Str}{c:Nat}(f:p∈a)(e:c∈p.cps.toList)(g:c≠120)(d:c≠46):¬UM.aW 8 a:=λb=>by
 rcases b.signs p f c e with z|z
 ·exact g z
 ·exact d z
theorem kJ{p:Str}(c:p∈a)(h:p.length=0):¬UM.aW 8 a:=λb=>by obtain⟨k,e,_,d⟩:=b.wide;have:=d p c;omega
theorem k9{p q:Str}(d:p∈a)(e:q∈a)(h:p.length≠q.length):¬UM.aW 8 a:=λb=>by obtain⟨k,f,_,c⟩:=b.wide;exact h ((c p d).trans (c q e).symm)
abbrev E0:Str:=""
theorem ptE:Pt E0:=⟨by show 10∉[];simp,by show 0<=30;omega⟩
section
variable{cd:Nat->List PV->Option PV}{fu:Nat}{τ:En}{a ss:kO}{c:IC}{way j:Int}
theorem BZ(h:τ[2]? =some (.frz (.int way) true)):cT cd (.val (.cmp .Eq (.var 2) (.con (.int j)))) τ=some (decide (way=j)):=by
 have g:j9 τ 2=some (.frz (.int way) true):=by unfold j9;rw[h]
 walk_at "ev";rw[g];rfl
theorem sk(h:τ[2]? =some (.frz (.int way) true))(n:decide (way=j)=false):aX cd fu (.cons (.ife (.val (.cmp .Eq (.var 2) (.con (.int j)))) a .nil) ss) τ=aX cd fu ss τ:=by rw[bE,jU,BZ h,n];rfl
theorem uu(h:τ[2]? =some (.frz (.int way) true))(n:decide (way=j)=false):aX cd fu (.cons (.ife (.and (.val (.cmp .Eq (.var 2) (.con (.int j)))) c) a .nil) ss) τ=aX cd fu ss τ:=by
 have e:cT cd (.and (.val (.cmp .Eq (.var 2) (.con (.int j)))) c) τ=(cT cd (.val (.cmp .Eq (.var 2) (.con (.int j)))) τ).bind λr=>if r then cT cd c τ else some false:=by walk_at "ev"
 rw[bE,jU,e,BZ h,n];rfl
theorem tk(h:τ[2]? =some (.frz (.int way) true))(n:decide (way=j)=true)(e:aX cd fu a τ=some (.nx b)):aX cd fu (.cons (.ife (.val (.cmp .Eq (.var 2) (.con (.int j)))) a .nil) ss) τ=aX cd fu ss b :=by rw[bE,jU,BZ h,n,K2,K5 rfl,e];rfl
theorem tk2(h:τ[2]? =some (.frz (.int way) true))(n:decide (way=j)=true)(f:cT cd c τ=some b)(e:b=true->aX cd fu a τ=some (.nx d))(g:b=false->d =τ):aX cd fu (.cons (.ife (.and (.val (.cmp .Eq (.var 2) (.con (.int j)))) c) a .nil) ss) τ=aX cd fu ss d :=by
 have z:cT cd (.and (.val (.cmp .Eq (.var 2) (.con (.int j)))) c) τ=(cT cd (.val (.cmp .Eq (.var 2) (.con (.int j)))) τ).bind λr=>if r then cT cd c τ else some false:=by walk_at "ev"
 rw[bE,jU,z,BZ h,n,K2,K5 rfl,f,K2];cases b with
 |true=>rw[K5 rfl,e rfl];rfl|false=>rw[g rfl];rfl
theorem dE{m:Bool}(i:τ[5]? =some (.own (b.map .str) m))(e:b≠[])(d:∀p∈b,Pt p)(f:b.length<=20)(h:¬UM.aW 8 b):∃z,aX cd fu (.cons (.ret [] (.mth .join (.con (.str "\n")) (.cons (.var 5) .nil))) .nil) τ=some (.rt (.str z))/\lq (.str z)=true:=by
 refine⟨_,?_,zu e d f h⟩;have g:aQ cd (.var 5) τ=some (.bor (.lst (b.map .str))):=by show j9 τ 5=_;unfold j9;rw[i]
 have l:=gk λp hp=>(d p hp).2;rw[bE,t8,show bD [] τ=τ from rfl,As g (Or.inr rfl) (by omega)];rfl
end
section
variable{k:Nat}{rows:List Str}{w i q:Nat}{st:Str}
abbrev cF(a:List Str)(b i q:Nat)(d:Str)(c:List Str):En:=[.frz (.tup (a.map .str)) true,.un,.frz (.int b) true,.frz (.int i) true,.frz (.int q) true,.own (c.map .str) true,.frz (.str d) true]
abbrev pw:kO:=dk 5 jA.body
theorem way6(a:UM.aW 8 rows):∃z,aX (aC P k) 1000000 pw (cF rows 6 i q st rows)=some (.rt (.str z))/\lq (.str z)=true:=by
 unfold pw;simp only[jA,dk];have b:=a.few;have e:aX (aC P k) 1000000 (.cons (.asg 5 true [5] (.bin .Add (.var 5) (.lst (.cons (.con (.str (Str.ofString ""))) .nil)))) .nil) (cF rows 6 i q st rows)=some (.nx (cF rows 6 i q st (rows++[E0]))):=by walk_at "ev";rw[K5 (by simp;omega)];walk_at "ev";rw[cF,LI];rfl
 rw[sk rfl rfl,sk rfl rfl,sk rfl rfl,uu rfl rfl,uu rfl rfl,sk rfl rfl,sk rfl rfl,sk rfl rfl,tk rfl rfl e,sk rfl rfl,sk rfl rfl];exact dE rfl (by simp) (CY a ptE) (by simp;omega) (kJ (p:=E0) (by simp) rfl)
theorem way7(bd:UM.aW 8 rows):∃z,aX (aC P k) 1000000 pw (cF rows 7 i q st rows)=some (.rt (.str z))/\lq (.str z)=true:=by
 unfold pw;simp only[jA,dk];have few:=bd.few;have im:=bH rows;have e:aX (aC P k) 1000000 (.cons (.asg 5 true [] (.bin .Add (.lst (.cons (.con (.str (Str.ofString ""))) .nil)) (.var 5))) .nil) (cF rows 7 i q st rows)=some (.nx (cF rows 7 i q st (E0::rows))):=by
  walk_at "ev";have hb:(RV.bor (.lst (rows.map .str))).its=some (rows.map .str,true):=K5 im;rw[show cC .Add (RV.own [PV.str (Str.ofString "")] true) (RV.bor (.lst (rows.map .str)))=fB (PV.str (Str.ofString "")::rows.map .str) true from by show(match some ([PV.str (Str.ofString "")],true),(RV.bor (.lst (rows.map .str))).its with|some (xs,n),some (ys,m)=>fB (xs++ys) (n&&m)|_,_=>none)=_;rw[hb];rfl]
  unfold fB;rw[K5 (by show _<=16777216;simp;omega)];rfl
 rw[sk rfl rfl,sk rfl rfl,sk rfl rfl,uu rfl rfl,uu rfl rfl,sk rfl rfl,sk rfl rfl,sk rfl rfl,sk rfl rfl,tk rfl rfl e,sk rfl rfl];exact dE rfl (by simp) (λp hp=>by rcases LB.mp hp with rfl|hp;exact ptE;exact aW.pt bd p hp) (by simp;omega) (kJ (p:=E0) (by simp) rfl)
theorem way5(a:UM.aW 8 rows)(c:i<rows.length):∃z,aX (aC P k) 1000000 pw (cF rows 5 i q st rows)=some (.rt (.str z))/\lq (.str z)=true:=by
 unfold pw;simp only[jA,dk];have b:=a.few;have e:aX (aC P k) 1000000 (.cons (.ins 5 (.var 3) (.con (.str (Str.ofString "")))) .nil) (cF rows 5 i q st rows)=some (.nx (cF rows 5 i q st (rows.take i++[E0]++rows.drop i))):=by
  have z:di (aC P k) 1000000 (.ins 5 (.var 3) (.con (.str (Str.ofString "")))) (cF rows 5 i q st rows)=if(0:Int)<=i/\i<=((rows.map PV.str).length:Int)/\(rows.map PV.str).length<LN then some (.nx ((cF rows 5 i q st rows).set 5 (.own ((rows.map PV.str).take (i:Int).toNat++.str (Str.ofString "")::(rows.map PV.str).drop (i:Int).toNat) (true&&true))))else none:=rfl
  rw[bE,z,K5 ⟨by omega,by rw[Kr];omega,by rw[Kr];show rows.length<16777216;omega⟩,L4,NV];unfold cF;rw[LI,LI,Mv,OA];rfl
 rw[sk rfl rfl,sk rfl rfl,sk rfl rfl,uu rfl rfl,uu rfl rfl,sk rfl rfl,sk rfl rfl,tk rfl rfl e,sk rfl rfl,sk rfl rfl,sk rfl rfl];exact dE rfl (by simp) (Fw a ptE i i) (by simp;omega) (kJ (p:=E0) (by simp) rfl)
theorem kE{cd:Nat->List PV->Option PV}{fu way:Nat}(b:i<a.length)(c:aQ cd e (cF rows way i q st a)=some (sc (.str z))):aX cd fu (.cons (.seti 5 [] (.var 3) e) .nil) (cF rows way i q st a)=some (.nx (cF rows way i q st (a.set i z))):=by rw[bE,vd,show bD [] (cF rows way i q st a)=cF rows way i q st a from rfl,c,K2];show((aQ cd (.var 3) (cF rows way i q st a)).bind λx=>setO 5 x.val (.str z) true (cF rows way i q st a)).bind _=_;rw[show aQ cd (.var 3) (cF rows way i q st a)=some (.frz (.int i) true)from rfl,K2,show(RV.frz (.int i) true).val=.int i from rfl,set_own rfl (oO (by rw[Kr];exact b)),K2];rw[<- List.map_set];rfl
theorem ic(h:b[i]? =some y):aQ c (.ix (.var 5) (.var 3)) (cF rows a i q st b)=some (.frz (.str y) true):=by show((dH (b.map PV.str) i).map fQ)=_;rw[jJ h];rfl
theorem oY{b:IE}{j:Nat}(h:aQ c a d=some (.frz (.str y) true))(e:aQ c b d=some (.frz (.int j) true))(f:y.length<=30):aQ c (.sl a (.yes b) .no) d=some (.frz (.str ⟨(y.cps.toList.drop j).toArray⟩) true):=by rw[cI,h,K2,show Dh c (.yes b) d=(aQ c b d).map some from rfl,e];show slice (.frz (.str y) true) (some j) none=_;rw[pz,K5 (by show y.length<=16777216;omega),K5 (by omega),L4]
theorem Bj{b:IE}{j:Nat}(h:aQ c a d=some (.frz (.str y) true))(e:aQ c b d=some (.frz (.int j) true))(f:y.length<=30):aQ c (.sl a .no (.yes b)) d=some (.frz (.str ⟨(y.cps.toList.take j).toArray⟩) true):=by rw[cI,h,K2,show Dh c (.yes b) d=(aQ c b d).map some from rfl,e];show slice (.frz (.str y) true) none (some j)=_;rw[kY,K5 (by show y.length<=16777216;omega),K5 (by omega),L4]
theorem gq(a:UM.aW 8 rows)(b:Pt z):∀p∈rows.set i z,Pt p:=λp hp=>by
 rcases Nz hp with h|rfl
 ·exact aW.pt a p h
 ·exact b
theorem BJ(a b:Str):(a++b).cps.toList=a.cps.toList++b.cps.toList:=Np
theorem nj(h:Pt y){l:List Nat}(b:∀c∈l,c∈y.cps.toList)(a:l.length<=y.length):Pt ⟨l.toArray⟩:=⟨λz=>h.1 (b 10 z),by show l.toArray.size<=30;rw[K1];exact LM a h.2⟩
theorem iN(a:UM.aW 8 rows):rows.set i z≠[]:=λe=>by have:=L5 List.length e;rw[Lk]at this;exact a.some (Nk this)
theorem way8(d:UM.aW 8 rows)(f:i<rows.length):∃z,aX (aC P k) 1000000 pw (cF rows 8 i q st rows)=some (.rt (.str z))/\lq (.str z)=true:=by
 unfold pw;simp only[jA,dk];have r:=d.few;obtain⟨w,A,x,o⟩:=d.wide;obtain⟨y,l⟩:∃y,rows[i]? =some y:=⟨_,Kv f⟩;have h:=K9 l;have v:=o y h;have g:=aW.pt d y h;have n:(y.cps.toList.drop 1).length<=y.length:=by rw[ML];have:y.cps.toList.length=y.length:=LZ;omega
 have m:=nj g (λc hc=>Nj hc) n;have u:(⟨(y.cps.toList.drop 1).toArray⟩:Str).length<=8:=by show(y.cps.toList.drop 1).toArray.size<=8;rw[K1];omega
 have e:=kE (rows:=rows) (q:=q) (st:=st) (cd:=aC P k) (fu:=1000000) (way:=8) f (Ar (a:=.con (.str (Str.ofString " "))) rfl (oY (b:=.con (.int 1)) (ic l) rfl g.2) (by have:(Str.ofString " ").length=1:=rfl;omega));rw[sk rfl rfl,sk rfl rfl,sk rfl rfl,uu rfl rfl,uu rfl rfl,sk rfl rfl,sk rfl rfl,sk rfl rfl,sk rfl rfl,sk rfl rfl,tk rfl rfl e];have s:Pt (Str.ofString " "++(⟨(y.cps.toList.drop 1).toArray⟩:Str)):=Pt.app ⟨by decide +kernel,by decide +kernel⟩ m.1 (by show 1+_<=30;omega);exact dE rfl (iN d) (gq d s) (by rw[Lk];omega) (vM (c:=32) (ND f _) (by rw[BJ];exact LQ _ (by decide +kernel)) (by decide) (by decide))
theorem way4(d:UM.aW 8 rows):∃z,aX (aC P k) 1000000 pw (cF rows 4 i q st rows)=some (.rt (.str z))/\lq (.str z)=true:=by
 unfold pw;simp only[jA,dk];have s:=d.few;obtain⟨w,I,H,n⟩:=d.wide;have e:aX (aC P k) 1000000 (.cons (.asg 5 true [] (.lc (.sl (.bin .Mult (.var 0) (.con (.int 9))) .no (.yes (.con (.int 9)))) (.seq (.var 5)) .no [])) .nil) (cF rows 4 i q st rows)=some (.nx (cF rows 4 i q st (rows.map λz=>(⟨((List.replicate 9 z.cps.toList).flatten.take 9).toArray⟩:Str)))):=by
  walk_at "ev";rw[K5 (bH rows),K2,K5 (by simp;omega)];rw[bC (λz a=>by
   have u:=n z a;rw[show cC .Mult (RV.frz (.str z) (true||imm (.str z))) (RV.frz (.int 9) true)=some (sc (.str ⟨(List.replicate 9 z.cps.toList).flatten.toArray⟩))from K5 ⟨by decide,by decide,by omega⟩,K2];have A:(⟨(List.replicate 9 z.cps.toList).flatten.toArray⟩:Str).length<=16777216:=by show(List.replicate 9 z.cps.toList).flatten.toArray.size<=16777216;rw[K1,ig];have:z.cps.toList.length=w:=u;omega
   rw[show(sc (.str ⟨(List.replicate 9 z.cps.toList).flatten.toArray⟩):RV)=.frz (.str ⟨(List.replicate 9 z.cps.toList).flatten.toArray⟩) true from rfl,kY,K5 A,K5 (by decide)];rfl)]
  walk_at "ev";unfold cF;rw[Lc];rfl
 rw[sk (way:=4) rfl rfl,sk (way:=4) rfl rfl,sk (way:=4) rfl rfl,uu (way:=4) rfl rfl,uu (way:=4) rfl rfl,sk (way:=4) rfl rfl,tk (way:=4) rfl rfl e,sk (way:=4) rfl rfl,sk (way:=4) rfl rfl,sk (way:=4) rfl rfl,sk (way:=4) rfl rfl];have o:∀z∈rows,((List.replicate 9 z.cps.toList).flatten.take 9).length=9:=λz a=>by rw[Ln,ig];have:z.cps.toList.length=w:=n z a;rw[this];omega
 have g:∀p∈rows.map (λz=>(⟨((List.replicate 9 z.cps.toList).flatten.take 9).toArray⟩:Str)),Pt p/\p.length=9:=λp g=>by
  obtain⟨z,a,rfl⟩:=LD.mp g;have C:=o z a;have r:(⟨((List.replicate 9 z.cps.toList).flatten.take 9).toArray⟩:Str).length=9:=by show(List.toArray _).size=9;rw[K1];exact C
  refine⟨⟨λc=> ?_,by omega⟩,r⟩;have c:=M6 c;obtain⟨l,E,j⟩:=List.mem_flatten.mp c;rw[(Nv.mp E).2]at j;exact(aW.pt d z a).1 j
 refine dE rfl (λz=>d.some (List.map_eq_nil_iff.mp z)) (λp h=>(g p h).1) (by simp;omega) λb=> ?_;obtain⟨v,J,K,D⟩:=b.wide;obtain⟨y,x⟩:=List.exists_mem_of_ne_nil _ d.some;have m:=List.mem_map_of_mem (f:=λz=>(⟨((List.replicate 9 z.cps.toList).flatten.take 9).toArray⟩:Str)) x;have:=D _ m;have:=(g _ m).2;omega
theorem tP{cd:Nat->List PV->Option PV}{way:Nat}{ls:List Str}(h:ls.length<=1000):cT cd (.val (.cmp .Eq (.bf .len (.cons (.var 5) .nil)) (.con (.int 1)))) (cF rows way i q st ls)=some (decide (ls.length=1)):=by
 walk_at "ev";rw[Kr]
 congr 1
 omega
theorem nQ{a:Nat}{z:Str}(h:b.length<=1000)(f:aQ c e [.frz (.tup (rows.map .str)) true,.un,.frz (.int a) true,.frz (.int i) true,.frz (.int q) true,.frz (.lst (b.map .str)) true,.frz (.str st) true]=some (sc (.str z))):aX c d (.cons (.asg 5 true [5] (.bin .Add (.var 5) (.lst (.cons e .nil)))) .nil) (cF rows a i q st b)=some (.nx (cF rows a i q st (b++[z]))):=by walk_at "ev";rw[f];walk_at "ev";rw[K5 (by simp;omega)];walk_at "ev";rw[cF,LI];rfl
theorem other(f:UM.aW 8 rows){z:Str}(c:∀r∈rows,r.length=w)(d:i<rows.length)(e:rows.length≠1):∃r∈rows.set i z,r.length=w:=by
 obtain⟨j,b,a⟩:∃j,j<rows.length/\i≠j:=by
  by_cases h:i=0;exact⟨1,by omega,by omega⟩
  ·exact⟨0,by omega,h⟩
 refine⟨rows[j],?_,c _ (NE b)⟩;refine K9 (i:=j) ?_;rw[Lf a,Kv b]
set_option tactic.hygienic true in
theorem way2(c:UM.aW 8 rows)(d:i<rows.length):∃z,aX (aC P k) 1000000 pw (cF rows 2 i q st rows)=some (.rt (.str z))/\lq (.str z)=true:=by
 unfold pw;simp only[jA,dk];have C:=c.few;obtain⟨w,K,J,x⟩:=c.wide;obtain⟨y,o⟩:∃y,rows[i]? =some y:=⟨_,Kv d⟩;have v:=K9 o;have L:=x y v;have s:=aW.pt c y v;have M:y.cps.toList.length=y.length:=LZ;obtain⟨Z,l⟩:∃Z:Str,Z=⟨(y.cps.toList.drop 1).toArray⟩:=⟨_,rfl⟩;have u:Z.length=w-1:=by rw[l];show(y.cps.toList.drop 1).toArray.size=_;rw[K1,ML];omega
 have n:Pt Z:=by rw[l];exact nj s (λc hc=>Nj hc) (by rw[ML];omega)
 have e:=kE (rows:=rows) (q:=q) (st:=st) (cd:=aC P k) (fu:=1000000) (way:=2) d (oY (b:=.con (.int 1)) (j:=1) (ic o) rfl s.2);rw[<- l]at e;obtain⟨g,a⟩:∃g,g=if rows.length=1 then rows.set i Z++[Z++Str.ofString "x"]else rows.set i Z:=⟨_,rfl⟩
 have A:(rows.set i Z).length=rows.length:=Lk;have D:∀{m:kO},aX (aC P k) 1000000 (.cons (.ife (.and (.val (.cmp .Eq (.var 2) (.con (.int 2)))) (.val (.cmp .Eq (.bf .len (.cons (.var 5) .nil)) (.con (.int 1))))) (.cons (.asg 5 true [5] (.bin .Add (.var 5) (.lst (.cons (.bin .Add (.ix (.var 5) (.con (.int 0))) (.con (.str (Str.ofString "x")))) .nil)))) .nil) .nil) m) (cF rows 2 i q st (rows.set i Z))=aX (aC P k) 1000000 m (cF rows 2 i q st g):=λ{m}=>by
  refine tk2 rfl rfl (tP (by omega)) (λhb=> ?_) (λhb=> ?_)
  ·have f:=LJ hb
   rw[a,K5 (by omega)];have H:i=0:=by omega
   refine nQ (by omega) (Ar (z:=Z) ?_ rfl (by rw[u];show _+1<=5000;omega));show((dH ((rows.set i Z).map PV.str) ((0:Nat):Int)).map λe=>RV.frz e (true||imm e))=_;rw[jJ (z:=Z) (by rw[H];exact Ll (by omega))];rfl
  ·have f:=of_decide_eq_false hb
   rw[a,LC (by omega)]
 rw[sk rfl rfl,sk rfl rfl,tk rfl rfl e,uu rfl rfl,D,sk rfl rfl,sk rfl rfl,sk rfl rfl,sk rfl rfl,sk rfl rfl,sk rfl rfl];rw[a]
 split
 ·rename_i f
  refine dE rfl (by simp) (λp hp=> ?_) (by rw[K7,A];show _+1<=20;omega) (k9 (p:=Z) (q:=Z++Str.ofString "x") (LQ _ (ND d _)) (by simp) (by rw[Lw];show _≠_+1;omega))
  rcases LP.mp hp with h|h
  ·exact gq c n p h
  ·rw[LF.mp h]
   exact Pt.app n (by decide +kernel) (by rw[u];show _+1<=30;omega)
 ·rename_i f
  obtain⟨r,E,I⟩:=other c (z:=Z) x d f;exact dE rfl (iN c) (gq c n) (by omega) (k9 (p:=Z) (q:=r) (ND d _) E (by omega))
theorem yU{cd:Nat->List PV->Option PV}{way:Nat}{ls:List Str}:∃s:Str,aQ cd (.ix (.lst (.cons (.con (.str (Str.ofString " "))) (.cons (.con (.str (Str.ofString "x"))) (.cons (.con (.str (Str.ofString "."))) .nil)))) (.bin .Mod (.var 4) (.con (.int 3)))) (cF rows way i q st ls)=some (.frz (.str s) true)/\s.length=1/\10∉s.cps.toList:=by
 walk_at "ev";obtain⟨r,b,a⟩:∃r,q%3=(r:Int)/\r<3:=⟨q%3,by omega,by omega⟩;rw[b]
 match r,a with
 |0,_=>exact⟨_,rfl,rfl,by decide +kernel⟩|1,_=>exact⟨_,rfl,rfl,by decide +kernel⟩|2,_=>exact⟨_,rfl,rfl,by decide +kernel⟩
set_option tactic.hygienic true in
theorem way1(b:UM.aW 8 rows)(d:i<rows.length):∃z,aX (aC P k) 1000000 pw (cF rows 1 i q st rows)=some (.rt (.str z))/\lq (.str z)=true:=by
 unfold pw;simp only[jA,dk];have E:=b.few;obtain⟨w,R,Y,A⟩:=b.wide;obtain⟨y,u⟩:∃y,rows[i]? =some y:=⟨_,Kv d⟩;have x:=K9 u;have U:=A y x;have M:=aW.pt b y x;obtain⟨s,J,X,C⟩:=yU (way:=1) (i:=i) (q:=q) (st:=st) (ls:=rows);obtain⟨Z,j⟩:∃Z:Str,Z=y++s:=⟨_,rfl⟩;have W:Z.length=w+1:=by rw[j,Lw];omega
 have v:Pt Z:=by rw[j];exact Pt.app M C (by omega)
 have e:=kE (q:=q) (st:=st) (fu:=1000000) (way:=1) d (Ar (ic u) J (by omega));rw[<- j]at e;obtain⟨T,n⟩:∃T:Str,T=⟨(List.replicate w (Str.ofString "x").cps.toList).flatten.toArray⟩:=⟨_,rfl⟩;have S:T.length=w:=by rw[n];show(List.toArray _).size=w;rw[K1,ig];show w*1=w;omega
 have Q:Pt T:=⟨λc=>by
  rw[n]at c;obtain⟨l,N,o⟩:=List.mem_flatten.mp (show 10∈(List.replicate w (Str.ofString "x").cps.toList).flatten from c);rw[(Nv.mp N).2]at o
  revert o
  decide +kernel,by omega⟩
 obtain⟨f,a⟩:∃f,f=if rows.length=1 then rows.set i Z++[T]else rows.set i Z:=⟨_,rfl⟩
 have D:(rows.set i Z).length=rows.length:=Lk;have H:∀{m:kO},aX (aC P k) 1000000 (.cons (.ife (.and (.val (.cmp .Eq (.var 2) (.con (.int 1)))) (.val (.cmp .Eq (.bf .len (.cons (.var 5) .nil)) (.con (.int 1))))) (.cons (.asg 5 true [5] (.bin .Add (.var 5) (.lst (.cons (.bin .Mult (.con (.str (Str.ofString "x"))) (.bin .Sub (.bf .len (.cons (.ix (.var 5) (.con (.int 0))) .nil)) (.con (.int 1)))) .nil)))) .nil) .nil) m) (cF rows 1 i q st (rows.set i Z))=aX (aC P k) 1000000 m (cF rows 1 i q st f):=λ{m}=>by
  refine tk2 (way:=1) rfl rfl (tP (by omega)) (λhb=> ?_) (λhb=> ?_)
  ·have g:=LJ hb
   rw[a,K5 (by omega)];have L:i=0:=by omega
   refine nQ (by omega) ?_;have K:dH ((rows.set i Z).map PV.str) 0=some (.str Z):=jJ (i:=0) (z:=Z) (by rw[L];exact Ll (by omega));walk_at "ev";rw[K];walk_at "ev";rw[len_str,K5 (by show Z.length<=16777216;omega),Lj,K2,show cC .Sub (RV.frz (.int ((Z.length:Nat):Int)) true) (RV.frz (.int 1) true)=some (sc (.int (((Z.length:Nat):Int)-1)))from rfl,K2,show((Z.length:Nat):Int)-1=((w:Nat):Int)by omega];rw[show cC .Mult (RV.frz (.str (Str.ofString "x")) true) (sc (.int ((w:Nat):Int)))=some (sc (.str ⟨(List.replicate ((w:Nat):Int).toNat (Str.ofString "x").cps.toList).flatten.toArray⟩))from K5 ⟨by omega,by omega,by decide +kernel⟩,L4,<-n]
  ·have g:=of_decide_eq_false hb
   rw[a,LC (by omega)]
 rw[sk (way:=1) rfl rfl,tk (way:=1) rfl rfl e,sk (way:=1) rfl rfl,H,uu (way:=1) rfl rfl,sk (way:=1) rfl rfl,sk (way:=1) rfl rfl,sk (way:=1) rfl rfl,sk (way:=1) rfl rfl,sk (way:=1) rfl rfl,sk (way:=1) rfl rfl];rw[a]
 split
 ·rename_i g
  refine dE rfl (by simp) (λp hp=> ?_) (by rw[K7,D];show _+1<=20;omega) (k9 (p:=Z) (q:=T) (LQ _ (ND d _)) (by simp) (by omega))
  rcases LP.mp hp with h|h
  ·exact gq b v p h
  ·rw[LF.mp h]
   exact Q
 ·rename_i g
  obtain⟨r,I,O⟩:=other b (z:=Z) A d g;exact dE rfl (iN b) (gq b v) (by omega) (k9 (p:=Z) (q:=r) (ND d _) I (by omega))
theorem ky{s:IS}(h:aX b c (.cons s .nil) d=some (.nx a)):di b c s d=some (.nx a):=by
 rw[bE]at h;cases e:di b c s d with
 |none=>rw[e]at h;cases h|some f =>
  rw[e]at h;cases f with
  |nx g=>exact h|_=>cases h
theorem o5{x y:Bool}(f:cT c a d=some x)(e:x=true->cT c b d=some y):cT c (.and a b) d=some (x&&y):=by
 have z:cT c (.and a b) d=(cT c a d).bind λr=>if r then cT c b d else some false:=by walk_at "ev"
 rw[z,f];cases x with
 |true=>exact e rfl|false=>rfl
def sj:List Str:=[Str.ofString "X",Str.ofString "o",Str.ofString " ",Str.ofString "0",Str.ofString ",",Str.ofString "-",Str.ofString "_",Str.ofString "xx"]
theorem yZ:∀a∈sj,(a=Str.ofString "xx")\/((a==Str.ofString "xx")=false/\a.length=1/\∃c∈a.cps.toList,c≠120/\c≠46/\c≠10):=by decide +kernel
set_option tactic.hygienic true in
theorem way0(bd:UM.aW 8 rows)(hi:i<rows.length)(hst:st∈sj)(hq:∀r∈rows,q<r.length):∃z,aX (aC P k) 1000000 pw (cF rows 0 i q st rows)=some (.rt (.str z))/\lq (.str z)=true:=by
 unfold pw;simp only[jA,dk];have few:=bd.few;obtain⟨w,w1,w2,hw⟩:=bd.wide;obtain⟨y,hy⟩:∃y,rows[i]? =some y:=⟨_,Kv hi⟩;have ym:=K9 hy;have yw:=hw y ym;have yq:=hq y ym;have yp:=aW.pt bd y ym;have yl:y.cps.toList.length=y.length:=LZ;obtain⟨A,hA⟩:∃A:Str,A=⟨(y.cps.toList.take q).toArray⟩:=⟨_,rfl⟩;obtain⟨B,hB⟩:∃B:Str,B=⟨(y.cps.toList.drop (q+1)).toArray⟩:=⟨_,rfl⟩;have al:A.length=q:=by rw[hA];show(List.toArray _).size=_;rw[K1,Ln];omega
 have bl:B.length=w-(q+1):=by rw[hB];show(List.toArray _).size=_;rw[K1,ML];omega
 have ap:Pt A:=by rw[hA];exact nj yp (λc hc=>M6 hc) (by rw[Ln];omega)
 have bp:Pt B:=by rw[hB];exact nj yp (λc hc=>Nj hc) (by rw[ML];omega)
 have s2:st.length<=2/\10∉st.cps.toList:=by
  revert st
  decide +kernel
 obtain⟨Z,hZ⟩:∃Z:Str,Z=A++st++B:=⟨_,rfl⟩;have zl:Z.length=w-1+st.length:=by rw[hZ,Lw,Lw];omega
 have zp:Pt Z:=by rw[hZ];exact Pt.app (Pt.app ap s2.2 (by omega)) bp.1 (by rw[Lw];omega)
 have e1:=kE (rows:=rows) (q:=q) (st:=st) (cd:=aC P k) (fu:=1000000) (way:=0) hi (Ar (Ar (Bj (b:=.var 4) (j:=q) (ic hy) rfl yp.2) (b:=.var 6) (y:=st) rfl (by rw[<- hA];omega)) (oY (b:=.bin .Add (.var 4) (.con (.int 1))) (j:=q+1) (ic hy) rfl yp.2) (by rw[<- hA,<-hB,Lw];omega));rw[<- hA,<-hB,<-hZ]at e1;have ln:(rows.set i Z).length=rows.length:=Lk;obtain⟨ls,hls⟩:∃ls,ls=if st=Str.ofString "xx"/\rows.length=1/\Z.length<9 then rows.set i Z++[E0]else rows.set i Z:=⟨_,rfl⟩
 have c1:cT (aC P k) (.val (.cmp .Eq (.var 6) (.con (.str (Str.ofString "xx"))))) (cF rows 0 i q st (rows.set i Z))=some (decide (st=Str.ofString "xx")):=by walk_at "ev"
 have c3:decide ((rows.set i Z).length=1)=true->cT (aC P k) (.val (.cmp .Lt (.bf .len (.cons (.ix (.var 5) (.con (.int 0))) .nil)) (.con (.int 9)))) (cF rows 0 i q st (rows.set i Z))=some (decide (Z.length<9)):=λh1=>by
  have h1:=LJ h1;have i0:i=0:=by omega
  have ea:dH ((rows.set i Z).map PV.str) 0=some (.str Z):=jJ (i:=0) (z:=Z) (by rw[i0];exact Ll (by omega));walk_at "ev";rw[ea];walk_at "ev";rw[show(fQ (PV.str Z)).val=.str Z from rfl,len_str,K5 (by show Z.length<=16777216;omega),Lj,K2];show some (decide (((Z.length:Nat):Int)<9))=_
  congr 1
  rw[L7,Ml,Ml];omega
 have cc:=o5 c1 λ_=>o5 (tP (rows:=rows) (way:=0) (i:=i) (q:=q) (st:=st) (cd:=aC P k) (by omega)) c3;have e2:aX (aC P k) 1000000 (.cons (.ife (.and (.val (.cmp .Eq (.var 6) (.con (.str (Str.ofString "xx"))))) (.and (.val (.cmp .Eq (.bf .len (.cons (.var 5) .nil)) (.con (.int 1)))) (.val (.cmp .Lt (.bf .len (.cons (.ix (.var 5) (.con (.int 0))) .nil)) (.con (.int 9)))))) (.cons (.asg 5 true [5] (.bin .Add (.var 5) (.lst (.cons (.con (.str (Str.ofString ""))) .nil)))) .nil) .nil) .nil) (cF rows 0 i q st (rows.set i Z))=some (.nx (cF rows 0 i q st ls)):=by
  rw[bE,jU,cc,K2,hls,ln]
  by_cases h:st=Str.ofString "xx"/\rows.length=1/\Z.length<9
  ·rw[LU h.1,LU h.2.1,LU h.2.2,K5 h,K5 (show(true&&(true&&true))=true from rfl),nQ (z:=E0) (by omega) rfl]
   rfl
  ·rw[LC h,LC λz=>h ?_]
   ·rfl
   ·rw[Kt,Kt]at z
    exact⟨LJ z.1,LJ z.2.1,LJ z.2.2⟩
 have e:∀{s:IS}{r:kO},di (aC P k) 1000000 s (cF rows 0 i q st rows)=some (.nx (cF rows 0 i q st (rows.set i Z)))->aX (aC P k) 1000000 r (cF rows 0 i q st (rows.set i Z))=some (.nx (cF rows 0 i q st ls))->aX (aC P k) 1000000 (.cons s r) (cF rows 0 i q st rows)=some (.nx (cF rows 0 i q st ls)):=λ{s r} h1 h2=>by rw[bE,h1,K2];exact h2
 rw[tk (way:=0) rfl rfl (e (ky e1) e2),sk (way:=0) rfl rfl,sk (way:=0) rfl rfl,uu (way:=0) rfl rfl,uu (way:=0) rfl rfl,sk (way:=0) rfl rfl,sk (way:=0) rfl rfl,sk (way:=0) rfl rfl,sk (way:=0) rfl rfl,sk (way:=0) rfl rfl,sk (way:=0) rfl rfl];rw[hls]
 split
 ·rename_i h
  refine dE rfl (by simp) (λp hp=> ?_) (by rw[K7,ln];show _+1<=20;omega) (kJ (p:=E0) (by simp) rfl)
  rcases LP.mp hp with h|h
  ·exact gq bd zp p h
  ·rw[LF.mp h]
   exact ptE
 ·rename_i h
  refine dE rfl (iN bd) (gq bd zp) (by omega) ?_
  rcases yZ st hst with hx|⟨_,_,c,hc,n1,n2,_⟩
  ·have sl:st.length=2:=by rw[hx];rfl
   by_cases h1:rows.length=1
   ·intro b
    obtain⟨v,v1,v8,hv⟩:=b.wide;have:=hv Z (ND hi _);omega
   ·obtain⟨r,hr,hrw⟩:=other bd (z:=Z) hw hi h1
    exact k9 (p:=Z) (q:=r) (ND hi _) hr (by omega)
  ·exact vM (p:=Z) (c:=c) (ND hi _) (by rw[hZ,BJ,BJ];exact LQ _ (Lb _ hc)) n1 n2
end
theorem IY{k:Nat}{rows:List Str}{i q:Nat}{st:Str}(c:a.length=9)(d:∀p∈a,Pt p):∃z,aX (aC P k) 1000000 (dk 11 jA.body) (cF rows 3 i q st a)=some (.rt (.str z))/\lq (.str z)=true:=by simp only[jA,dk];exact dE rfl (λz=>by rw[z]at c;cases c) d (by omega) λb=>by have:=b.few;omega
section
open PySem.Spec PyProof.Rows L2.XN XE
theorem relO{K:W.Frag}{G:Hp}{us:List V}(h:G y=some (.lst us)):aY K (qS G y) [y] [] [] G :=
 ⟨λb o e=>by
   by_cases z:b=y
   ·rw[z]at e
    rw[show qS G y y=none from K5 rfl]at e;cases e
   ·rw[cE z]at e
    exact e,λl hl=>by rw[LF.mp hl];exact⟨K5 rfl,_,h,.lst⟩,λ_ _ _ e=>(by cases e),λ_ _ _ _ _ e=>(by cases e),λ_ _ _ _ _ _ _ e=>(by cases e)⟩
theorem aY.consO{K:W.Frag}{f:Hp}{O:List Addr}{a:En}{o:L2.St}{H:Hp}{l:Addr}{p:List PV}{us:List V}{n:Bool}(R:aY K f O a o H)(g:∀(i:Nat) (t:TV),a[i]? =some t->t.ob=none)(q:l∈O)(h:H l=some (.lst us))(r:aJ K f n p (aS H O) us):aY K f O (.own p n::a) (some (.ref l)::o) H where
 same:=R.same
 own:=R.own
 frz:=λi v n e=>by
  cases i with
  |zero=>cases e|succ i=>exact R.frz i v n e
 obs:=λi t b ys m e ht=>by
  cases i with
  |zero =>cases e;cases ht;exact⟨l,us,_,rfl,q,h,rfl,r⟩
  |succ i =>rw[g i t e]at ht;cases ht
 dst:=λi j t t' x y l d h1 c h2 g1 g2=>by
  cases i with
  |zero =>
   cases j with
   |zero=>rfl|succ j =>have c:=c;rw[g j t' c]at h2;cases h2
  |succ i =>rw[g i t d]at h1;cases h1
theorem nW:ak xo ["_law_board_here","_law_drawn"] (aI tD):=⟨rfl,rfl,rfl,by decide +kernel,rfl,by decide +kernel,by decide +kernel⟩
abbrev lR:Ct:=⟨xo,(aI tD).names,F,G,B,[5]⟩
def uW:List Stmt:=(ai tD).drop 5
def Iy:Sp:=λvs H Q _=>∃(t l:Addr)(b:List Int)(a:List Str),vs=[.ref t,.ref l]/\t≠l/\UM.aW 8 a/\H t=some (.tup (a.map V.str))/\H l=some (.lst (b.map V.int))/\∀(z:Str) H',lm l H H' ->lq (.str z)=true->Q (.str z) H'
theorem IZ:d6 80 lR uW=dk 5 jA.body:=by kernel_rfl
theorem E4:d6 80 lR (uW.drop 6)=dk 11 jA.body:=by kernel_rfl
theorem gp{K:W.Frag}{i:Nat}{t:Addr}{G:Hp}(h:t≠y)(j:G t=some (.tup (a.map V.str)))(f:G y=some (.lst (g.map V.str))) :
  aY K (qS G y) [y] (cF a b i q d g) [some (.ref t),some (.ref l),some (.int b),some (.int i),some (.int q),some (.ref y),some (.str d)] G:=by
 have c :aS G [y] t=some (.tup (a.map V.str)):=by unfold aS;rw[LC (by rw[LF];exact h)];exact j
 exact aY.consF (aY.consU (aY.consF (aY.consF (aY.consF (aY.consO (aY.consF (relO f) (Rp.str.mpr rfl)) (λi t e=>by
   cases i with
   |zero=>cases e;rfl|succ i=>cases e) (by simp) f aJ.strs2) (Rp.int.mpr rfl)) (Rp.int.mpr rfl)) (Rp.int.mpr rfl))) (Rp.tup.mpr ⟨t,_,rfl,cU.of c,aJ.strs2⟩)
theorem uz{k:Nat}{i:Nat}{t:Addr}{G:Hp}{body:List Stmt}(A:bS (aC P k) X lR)(g:X.fn=λ_=>true)(s:X.N=xo)(v:d6 80 lR body=c)(p:aX (aC P k) 1000000 c (cF a d i q j h)=some (.rt (.str z)))
  (x:t≠y) (E:G t=some (.tup (a.map V.str))) (m:G y=some (.lst (h.map V.str))) (C:∀f,(∀b o,b≠y->G b=some o->f b=some o)->D.rt (.str z) f) :
  Ba X body D [some (.ref t),some (.ref l),some (.int d),some (.int i),some (.int q),some (.ref y),some (.str j)] G:=by
 subst v;refine(BL 80).ss X lR (qS G y) (cF a d i q j h) body _ A g p [y] _ G D (gp x E m) (by rw[s];rfl) ?_;intro u f r w;rw[Rp.str.mp w];exact C f λb o n e=>r b o (by rw[cE n];exact e)
def uR(i:Nat):Stmt:=uW.getD i (.Pass ⟨0,0,0,0⟩)
theorem Ju:uW=uR 0::uR 1::uR 2::uR 3::uR 4::uR 5::uW.drop 6:=by kernel_rfl
theorem at8(m:Int):∃c∈sj,dH (sj.map V.str) (m%8)=some (.str c):=by
 obtain⟨r,b,a⟩:∃r:Nat,m%8=r/\r<8:=⟨(m%8).toNat,by omega,by omega⟩;rw[b]
 match r,a with
 |0,_=>exact⟨_,.head _,rfl⟩|1,_=>exact⟨_,.tail _ (.head _),rfl⟩|2,_=>exact⟨_,.tail _ (.tail _ (.head _)),rfl⟩|3,_=>exact⟨_,.tail _ (.tail _ (.tail _ (.head _))),rfl⟩|4,_=>exact⟨_,.tail _ (.tail _ (.tail _ (.tail _ (.head _)))),rfl⟩|5,_=>exact⟨_,.tail _ (.tail _ (.tail _ (.tail _ (.tail _ (.head _))))),rfl⟩|6,_=>exact⟨_,.tail _ (.tail _ (.tail _ (.tail _ (.tail _ (.tail _ (.head _)))))),rfl⟩|7,_=>exact⟨_,.tail _ (.tail _ (.tail _ (.tail _ (.tail _ (.tail _ (.tail _ (.head _))))))),rfl⟩
theorem ways{k:Nat}{i:Nat}(c:UM.aW 8 a)(d:i<a.length)(e:f∈sj)(j:∀r∈a,q<r.length)(h:b<9)(g:b≠3):∃z,aX (aC P k) 1000000 pw (cF a b i q f a)=some (.rt (.str z))/\lq (.str z)=true:=by
 match b,h,g with
 |0,_,_=>exact way0 c d e j|1,_,_=>exact way1 c d|2,_,_=>exact way2 c d|4,_,_=>exact way4 c|5,_,_=>exact way5 c d|6,_,_=>exact way6 c|7,_,_=>exact way7 c|8,_,_=>exact way8 c d
theorem Cw{k:Nat}{i q:Nat}{t:Addr}{G:Hp}(g:bS (aC P k) X lR)(J:X.fn=λ_=>true)(W:X.N=xo)(S:UM.aW 8 c)
  (h:t≠y) (R:G t=some (.tup (c.map V.str))) (O:G y=some (.lst (c.map V.str))) (Z:∀z d,(∀b o,b≠y->G b=some o->d b=some o)->lq (.str z)=true->D.rt (.str z) d)
  (A:∀I,aE G I ->∀Q,(∀x d,aE I d ->I x=none->d x=some (.lst (((List.replicate 9 c).flatten.take 9).map V.str))->Q.nx [some (.ref t),some (.ref l),some (.int 3),some (.int i),some (.int q),some (.ref x),some (.str H)] d)->Ba X (match uR 5 with| .If _ a _ _=>a|_=>[]) Q [some (.ref t),some (.ref l),some (.int 3),some (.int i),some (.int q),some (.ref y),some (.str H)] I) :
  Ba X uW D [some (.ref t),some (.ref l),some (.int 3),some (.int i),some (.int q),some (.ref y),some (.str H)] G:=by
 rw[Ju];refine iF (aF fJ ay) ?_;refine lH (n:=80) (c' :=.val (.cmp .Eq (.var 2) (.con (.int 0)))) (t:=false) g (by kernel_rfl) (BZ (way:=3) rfl) (gp h R O) (λz=>by cases z) λ_ G1 s1=> ?_;refine iF bF ?_;have w:=s1 _ _ R;have s:=s1 _ _ O;refine iF (aF fJ ay) ?_;refine lH (n:=80) (c' :=.val (.cmp .Eq (.var 2) (.con (.int 1)))) (t:=false) g (by kernel_rfl) (BZ (way:=3) rfl) (gp h w s) (λz=>by cases z) λ_ G2 s2=> ?_;refine iF bF ?_;have C:=s2 _ _ w;have p:=s2 _ _ s;refine iF (aF fJ ay) ?_;refine lH (n:=80) (c' :=.val (.cmp .Eq (.var 2) (.con (.int 2)))) (t:=false) g (by kernel_rfl) (BZ (way:=3) rfl) (gp h C p) (λz=>by cases z) λ_ G3 s3=> ?_;refine iF bF ?_;have j:=s3 _ _ C;have v:=s3 _ _ p;refine iF (aF fJ ay) ?_;refine lH (n:=80) (c' :=.and (.val (.cmp .Eq (.var 2) (.con (.int 1)))) (.val (.cmp .Eq (.bf .len (.cons (.var 5) .nil)) (.con (.int 1))))) (t:=false) g (by kernel_rfl) (o5 (x:=false) (y:=false) (BZ (way:=3) rfl) (λz=>by cases z)) (gp h j v) (λz=>by cases z) λ_ G4 s4=> ?_;refine iF bF ?_;have m:=s4 _ _ j;have E:=s4 _ _ v;refine iF (aF fJ ay) ?_;refine lH (n:=80) (c' :=.and (.val (.cmp .Eq (.var 2) (.con (.int 2)))) (.val (.cmp .Eq (.bf .len (.cons (.var 5) .nil)) (.con (.int 1))))) (t:=false) g (by kernel_rfl) (o5 (x:=false) (y:=false) (BZ (way:=3) rfl) (λz=>by cases z)) (gp h m E) (λz=>by cases z) λ_ G5 s5=> ?_;refine iF bF ?_;have u:=s5 _ _ m;have K:=s5 _ _ E;have L:=s1.trans (s2.trans (s3.trans (s4.trans s5)));refine iF (aF fJ ay) ?_;refine lH (n:=80) (c' :=.val (.cmp .Eq (.var 2) (.con (.int 3)))) (t:=true) g (by kernel_rfl) (BZ (way:=3) rfl) (gp h u K) (λ_ G6 s6=> ?_) (λz=>by cases z);refine A G6 (L.trans s6) _ λx d s' x0 hx=> ?_;have Y:∀r∈(List.replicate 9 c).flatten.take 9,Pt r:=λr hr=>by obtain⟨l,hl,M⟩:=List.mem_flatten.mp (M6 hr);rw[(Nv.mp hl).2]at M;exact aW.pt S r M
 have U:((List.replicate 9 c).flatten.take 9).length=9:=by rw[Ln,ig];have:=List.length_pos_iff.mpr S.some;omega
 obtain⟨z,T,nb⟩:=IY (k:=k) (rows:=c) (i:=i) (q:=q) (st:=H) U Y;have f:=s' _ _ (s6 _ _ u);refine uz g J W E4 T (λe=>by rw[e,hx]at f;cases f) f hx λH2 hh=>Z z H2 (λb o n e=>hh b o (λe2=> ?_) (s' _ _ (s6 _ _ (L _ _ e)))) nb;rw[e2]at e;rw[s6 _ _ (L _ _ e)]at x0;cases x0
end
section
open PySem.Spec PyProof.Rows L2.XN XE
theorem wU{K:W.Frag}{fn:Addr}(hG:∀x v,G.lookup x=some v->∃u w,C x=some u/\RelV w u/\∀Hi n H,Rp K Hi n v H w)(hB:∀x,B.contains x=true->C x=none)(d:eh K C "_law_next" p8 ["_law_drawn"] fn a7)(Df:eh K C "_law_spoilt" tD ["_law_board_here","_law_drawn"] f fd){k:Nat}
  (b2:∀y g,F.lookup y=some g->∃b Y X,C y=some (.ref b)/\W.keepIn K (.ref b)=true/\Binds K Y X []/\aq p w K C c dI (k+2) b Y X (kB K (aC P (k+2) g))):aq p w K C c dI (k+3) f fd ["_law_board_here","_law_drawn"] Iy:=by
 have U:=(kI d (p:=p) (w:=w) (base:=c) (k:=k)).mono (show k+1<=k+2 by omega);refine Df.fn.ok nW (λvs H Q E h=> ?_) (λcdv A outer s H vs Q E hr h=> ?_)
 ·obtain⟨t,l,ns,a,rfl,_⟩:=h
  rfl
 obtain⟨t,l,ns,a,rfl,J,S,ht,hl,q⟩:=h;have L:=nW.nd;have R:=hB "len" rfl
 have C0:bS (aC P (k+2)) (dg dI p w K C c xo "_law_spoilt" (aI tD) f cdv A outer s H E).nox lR :=
  ⟨rfl,nW.nd,rfl,nW.kind,rfl,hG,hB,λy g hy=>by obtain⟨b,Y,X,z1,z2,z3,z4⟩:=b2 y g hy;exact⟨k+2,b,Y,X,z4,hr,z1,z2,z3⟩,Lq,hr.units⟩
 refine⟨_,aF (ao (i:=2) L rfl (Or.inl rfl) (bN dG (ag U hr rfl d.nm d.fn.kp d.bd .nil bZ (aB (pv 1) aH)) bA)) (aF (ao (i:=3) L rfl (Or.inl rfl) (bN dG (ag U hr rfl d.nm d.fn.kp d.bd .nil bZ (aB (pv 1) aH)) (bQ dW rfl R M4 (aB (pv 0) aH)))) (aF (ao (i:=4) L rfl (Or.inl rfl) (bN dG (ag U hr rfl d.nm d.fn.kp d.bd .nil bZ (aB (pv 1) aH)) (bQ jF rfl R M4 (aB (ku tm (pv 0) bA (λ_ _=>rfl)) aH)))) (aF (ao (i:=5) L rfl (Or.inl rfl) (bY eW rfl (hB "list" rfl) Mn (aB (pv 0) aH))) (aF (ao (i:=6) L rfl (Or.inl rfl) (ku eS (dv (aB bV (aB bV (aB bV (aB bV (aB bV (aB bV (aB bV (aB bV aH))))))))) (bN dG (ag U hr rfl d.nm d.fn.kp d.bd .nil bZ (aB (pv 1) aH)) bA) (λ_ _=>rfl))) ay)))),?_⟩
 have b3:=S.few;have I:0<a.length:=List.length_pos_iff.mpr S.some;obtain⟨w',w1,w2,hw⟩:=S.wide;refine⟨_,rfl,l,ns,rfl,hl,λm1 H1 c1=>⟨_,_,rfl,rfl,(by show(0:Int)<9;decide),?_⟩⟩;obtain⟨n1,h1⟩:=c1.1;refine⟨_,rfl,l,n1,rfl,h1,λm2 H2 c2=>⟨_,rfl,t,_,rfl,.inr (cU.of (c2.2 _ _ J (c1.2 _ _ J ht))),_,_,rfl,rfl,(by show(0:Int)<((List.map V.str a).length:Nat);rw[Kr];omega),?_⟩⟩;obtain⟨n2,h2⟩:=c2.1;have t2:=c2.2 _ _ J (c1.2 _ _ J ht);obtain⟨m,O⟩:∃m,a[0]? =some m:=⟨_,Kv I⟩;have a0:=K9 O;have a5:=hw m a0;refine⟨_,rfl,l,n2,rfl,h2,λm3 H3 c3=>⟨_,rfl,t,_,_,_,rfl,rfl,cU.of (c3.2 _ _ J t2),bh (j:=0) (by rw[LA,O];rfl),m,rfl,(by show m.length<=16777216;omega),_,_,rfl,rfl,(by show(0:Int)<(m.length:Nat);omega),?_⟩⟩;obtain⟨n3,M⟩:=c3.1;have t3:=c3.2 _ _ J t2;refine⟨_,rfl,t,_,rfl,.inr (cU.of t3),λy hy=> ?_⟩;have Z:aE H3 (upd H3 y (.lst (a.map V.str))):=(aE.refl H3).upd hy;have yl:y≠l:=λe=>by rw[e,M]at hy;cases hy
 have ty:t≠y:=λe=>by rw[<- e,t3]at hy;cases hy
 refine⟨(by show 8<=sizeLine;decide),λx hx=> ?_⟩;have s4:aE (upd H3 y (.lst (a.map V.str))) (upd (upd H3 y (.lst (a.map V.str))) x (.lst (sj.map V.str))):=(aE.refl _).upd hx;have xl:x≠l:=λe=>by rw[e,Z _ _ M]at hx;cases hx
 refine⟨_,rfl,l,n3,rfl,s4 _ _ (Z _ _ M),λm4 H4 c4=>⟨_,_,rfl,rfl,(by show(0:Int)<8;decide),?_⟩⟩;obtain⟨st,a2,a6⟩:=at8 m4;refine⟨x,sj.map V.str,_,_,rfl,rfl,bJ.of (c4.2 _ _ xl aD),a6,?_⟩;have t4:H4 t=some (.tup (a.map V.str)):=c4.2 _ _ J (s4 _ _ (Z _ _ t3));have y4:H4 y=some (.lst (a.map V.str)):=c4.2 _ _ yl (s4 _ _ aD);have cA:=(c1.trans c2).trans c3;have a':H y=none:=cA.free hl hy;obtain⟨n4,h4⟩:=c4.1;have N:∀(z:Str) H',(∀b o,b≠y->H4 b=some o->H' b=some o)->lq (.str z)=true->Q (.str z) H' :=λz H' hh nb=>q z H' ⟨⟨n4,hh _ _ (MC yl) h4⟩,λb o n e=>hh b o (aG e a') (c4.2 b o n (s4 _ _ (Z _ _ (cA.2 b o n e))))⟩ nb;obtain⟨T,b0,a9⟩:∃T:Nat,m1%9=(T:Int)/\T<9:=⟨(m1%9).toNat,by omega,by omega⟩;obtain⟨iy,a4,a3⟩:∃iy:Nat,m2%(((a.map V.str).length:Nat):Int)=(iy:Int)/\iy<a.length:=by rw[Kr];have h0:=Mu m2 (show((a.length:Nat):Int)≠0 by omega);have h1:=MV m2 (show 0<((a.length:Nat):Int)by omega);exact⟨(m2%(a.length:Nat)).toNat,by omega,by omega⟩
 obtain⟨qy,a1,a8⟩:∃qy:Nat,m3%((m.length:Nat):Int)=(qy:Int)/\qy<m.length:=by have h0:=Mu m3 (show((m.length:Nat):Int)≠0 by omega);have h1:=MV m3 (show 0<((m.length:Nat):Int)by omega);exact⟨(m3%(m.length:Nat)).toNat,by omega,by omega⟩
 show Ba _ uW _ [some (.ref t),some (.ref l),some (.int (m1%9)),some (.int (m2%(((a.map V.str).length:Nat):Int))),some (.int (m3%((m.length:Nat):Int))),some (.ref y),some (.str st)] H4;rw[b0,a4,a1]
 by_cases M:T=3
 ·subst M
  refine Cw C0 rfl rfl S ty t4 y4 N λG' sg D' nx=> ?_;refine iF (aO (ao (i:=5) L rfl (Or.inl rfl) (kr nS (bN ze (pv 5) bA) oA (n9 bA)))) ?_;refine⟨_,rfl,y,9,_,rfl,rfl,sg _ _ y4,by decide,by decide,(by rw[Kr];show a.length*9<=16777216;omega),λx1 hx1=> ?_⟩;have e9:(List.replicate (9:Int).toNat (a.map V.str)).flatten=((List.replicate 9 a).flatten).map V.str:=by rw[List.map_flatten,List.map_replicate];rfl
  rw[e9];refine⟨_,rfl,x1,_,rfl,bJ.of aD,λx2 hx2=> ?_⟩;have ec:lQ (((List.replicate 9 a).flatten).map V.str) none (some 9)=((List.replicate 9 a).flatten.take 9).map V.str:=by
   unfold lQ;rw[HT.p7,show(9:Int)=((9:Nat):Int)from rfl,HT.uw,List.drop_zero,Nat.sub_zero,<-Mv,Kr]
   congr 1
   rw[List.take_eq_take_iff];omega
  rw[ec];have D:aE G' (upd G' x1 (.lst (((List.replicate 9 a).flatten).map V.str))):=(aE.refl _).upd hx1;exact nx x2 _ (D.upd (o:=.lst (((List.replicate 9 a).flatten.take 9).map V.str)) (D.free hx2)) (D.free hx2) aD
 ·obtain⟨z,ez,nb⟩:=ways (k:=k+2) S a3 a2 (λr hr=>by rw[hw r hr,<-a5];exact a8) a9 M
  exact uz C0 rfl rfl IZ ez ty t4 y4 λH' hh=>N z H' hh nb
end
theorem c219(k:Nat)(e:List Int)(S:e.length<=63):∃v,aC P (k+1) 219 [.lst (e.map .int)]=some v/\∃Z:List Int,v=.lst (Z.map .int):=by
 refine kb rfl rfl ?_;simp only[Jx,entry];walk_at "ev";have K:(if(63:Int)<((e.map PV.int).length:Nat)then 63 else(((e.map PV.int).length:Nat):Int))=(e.length:Nat):=by rw[Kr,LC (by omega)]
 rw[K];obtain⟨m,Y,m1⟩:∃m:Nat,(if((e.length:Nat):Int)>1 then((e.length:Nat):Int)else 1)=(m:Int)/\1<=m:=by
  split;exact⟨e.length,rfl,by omega⟩
  ·exact⟨1,rfl,by omega⟩
 rw[Y,sw,show(63:Int)=((63:Nat):Int)from rfl,vk,<-Mv,ik];walk_at "ev";rw[show∀l:List PV,ju Bf.list [RV.own l true]=some (.own l true)from λ_=>rfl,K2,show cC .Add (RV.own (List.map PV.int (List.take 63 e)) true) (RV.own [PV.int 0] true)=fB (List.map PV.int (List.take 63 e)++[PV.int 0]) (true&&true)from rfl];unfold fB;rw[K5 (by show _<=16777216;simp;omega),K2,sv,vk];obtain⟨g,E,c1⟩:∃g:List Int,(List.map PV.int (List.take 63 e)++[PV.int 0]).take m=g.map .int/\1<=g.length:=by
  refine⟨(e.take 63++[0]).take m,?_,?_⟩
  ·rw[show List.map PV.int (List.take 63 e)++[PV.int 0]=List.map PV.int (List.take 63 e++[0])from by rw[LI];rfl,<-Mv]
  ·rw[Ln,K7];show 1<=min m (_+1);omega
 have cl:g.length<=64:=by
  have:=L5 List.length E;rw[Ln,K7,Kr,Kr,Ln]at this;have:g.length<=min 63 e.length+1:=by rw[<- this];exact Nat.min_le_right _ _
  omega
 rw[E];walk_at "ev";have s:∀(l:List Int)(j:Nat),j<l.length->∃x,dH (l.map PV.int) (j:Int)=some (.int x):=λl j h=>⟨l[j],bh (by rw[LA,Kv h];rfl)⟩;obtain⟨M,H⟩:=s g 0 (by omega);have H:dH (g.map PV.int) 0=some (.int M):=H;rw[H];walk_at "ev";rw[H];walk_at "ev";rw[set_own (xs:=g.map .int) (n:=true) (j:=0) (q:=0) rfl (oO (j:=0) (by rw[Kr];omega)),<-List.map_set];obtain⟨C,O⟩:∃C,C=decide (M%2=1):=⟨_,rfl⟩;obtain⟨d,J,dl⟩:∃d:List Int,d=g.set 0 (M/2)/\d.length=g.length:=⟨_,rfl,Lk⟩;rw[<- O,<-J];have U:=ik d;walk_at "ev";have hb:(RV.bor (.lst (d.map .int))).its=some (d.map .int,true):=K5 U;rw[show ju Bf.list [RV.bor (.lst (d.map .int))]=some (.own (d.map .int) true)from by show(match(RV.bor (.lst (d.map .int))).its with|some (xs,n)=>some (RV.own xs n)|none=>none)=_;rw[hb]]
 walk_at "ev";refine eG (xs:=(List.range 200).map λi=>.int (0+(i:Nat))) (n:=true) ?_ (λi L=>∃(o f:List Int)(a b c:TV),L=[.frz (.lst (e.map .int)) false,.own (d.map .int) true,.frz (.bl C) true,.own (o.map .int) true,.own (f.map .int) true,a,b,c]/\o.length=d.length/\f.length<=i) ⟨d,[],_,_,_,rfl,rfl,Ky _⟩ ?_ ?_
 ·walk_at "ev"
  rfl
 ·rintro i y L R ⟨o,f,a,b,c,rfl,Q,W⟩
  obtain⟨hi,rfl⟩:i<200/\y=.int (0+(i:Nat)):=by rw[LA]at R;obtain⟨j,hj,rfl⟩:=map_some R;obtain⟨w,A⟩:=Kw.mp hj;rw[NP]at A;rw[LX]at w;exact⟨w,by rw[A]⟩
  refine⟨_,rfl,?_⟩;walk_at "ev";rw[K5 (by rw[Kr];omega)];obtain⟨r,T,rl⟩:∃r:Nat,((0:Int)+(i:Nat))%(((d.map PV.int).length:Nat):Int)=(r:Int)/\r<d.length:=by rw[Kr];have w:=MV ((0:Int)+(i:Nat)) (show 0<((d.length:Nat):Int)by omega);exact⟨(((0:Int)+(i:Nat))%(d.length:Nat)).toNat,by omega,by omega⟩
  rw[T];obtain⟨x,N⟩:=s o r (by omega);obtain⟨z,X⟩:=s d r rl;walk_at "ev";rw[N];walk_at "ev";obtain⟨p,D⟩:∃p:Bool,(if C=true then((Option.map fQ (dH (List.map PV.int o) (r:Int))).bind λx=>Option.map (λr=>RV.frz (PV.bl r) true) (bU CmpOp.NotIn x.val (PV.lst [PV.int 0,PV.int (-1)]))).bind λx=>mJ x.val else some false)=some p:=by
   rw[N];cases C with
   |false=>exact⟨false,rfl⟩|true =>refine⟨!([0,-1]:List Int).contains x,?_⟩;rw[K5 rfl,Lj,K2,show(fQ (PV.int x)).val=.int x from rfl,show PV.lst [PV.int 0,PV.int (-1)]=.lst (([0,-1]:List Int).map .int)from rfl,k8];rfl
  rw[D,K2];cases p with
  |true =>rw[K5 rfl,N];walk_at "ev";rw[set_own (xs:=o.map .int) (n:=true) (q:=r) rfl (oO (by rw[Kr];omega)),<-List.map_set];walk_at "ev";rw[eA (xs:=f.map .int) (n:=true) rfl (by rw[Kr];show f.length<16777216;omega)];walk_at "ev";exact⟨o.set r (x/2147483629),f++[x%2147483629],_,_,_,by rw[LI];rfl,by rw[Lk];exact Q,by rw[K7];show _+1<=_;omega⟩
  |false =>
   rw[LC K0,X];walk_at "ev";rw[K5 (Or.inl ⟨by omega,by omega⟩)];walk_at "ev";obtain⟨u,w⟩:∃u:Int,u=(z%2147483629*48271+7919*(0+(i:Int))*(0+(i:Int))+104729)%2147483647:=⟨_,rfl⟩;have b1:0<=u/\u<2147483647:=by rw[w];exact⟨Mu _ (by decide),MV _ (by decide)⟩
   rw[<- w];walk_at "ev";rw[K5 (Or.inl ⟨by omega,by omega⟩)];walk_at "ev";obtain⟨I,A⟩:∃I:Int,I=u*u%2147483629:=⟨_,rfl⟩;have b2:0<=I/\I<2147483629:=by rw[A];exact⟨Mu _ (by decide),MV _ (by decide)⟩
   rw[<- A];walk_at "ev";rw[K5 (Or.inr ⟨by omega,by omega⟩)];walk_at "ev";rw[eA (xs:=f.map .int) (n:=true) rfl (by rw[Kr];show f.length<16777216;omega)];walk_at "ev";exact⟨o,f++[_],_,_,_,by rw[LI];rfl,Q,by rw[K7];show _+1<=_;omega⟩
 ·rintro L ⟨o,f,a,b,c,rfl,Q,W⟩
  walk_at "ev";rw[show wk (RV.bor (.lst (f.map .int)))=some (.own (f.map PV.int).reverse true)from by unfold wk;rw[show(RV.bor (.lst (f.map .int))).its=some (f.map .int,true)from K5 (ik f)];rfl]
  walk_at "ev";exact⟨_,rfl,f.reverse,by rw[List.map_reverse]⟩
theorem Gr{k n:Nat}{v:PV}(a:P f=some ⟨n+1,1,.cons (.drop (.call 20020 (.cons (.con .non) .nil))) (.cons (.hand 1 g) .nil)⟩)(c:g [v]=some r):aC P (k+22) f [v]=some r:=by refine run a rfl ?_;have b:aC P (k+21) 20020 [.non]=some .non:=rfl;simp only[wF,wG,gI,gG,cQ,cR,pU,pV,entry,K2,Lj,K8,MJ,bT,sc];rw[b];simp only[Lj,K2,fe];have e:(([TV.frz v (imm v)]++List.replicate (n+1-[v].length) TV.un).take 1).map TV.valD=[v]:=rfl;rw[e,c];rfl
theorem KQ(k:Nat){v:PV}(h:lq v=true):aC P (k+22) 224 [v]=some (.bl true):=Gr rfl (CL h)
theorem row3{k:Nat}{rows:List Str}{a0 a1 a3 a4 a5 a6:TV}:∃a,di (aC P (k+22)) 1000000 (.forr [4] true [] (.seq (.lst (.cons (.con .non) (.cons (.con (.int 3)) (.cons (.con (.bl true)) (.cons (.tup (.cons (.con (.str (Str.ofString "x"))) .nil)) (.cons (.lst (.cons (.con (.str (Str.ofString "x"))) .nil)) (.cons .dnew (.cons (.con (.str (Str.ofString ""))) (.cons (.con (.str (Str.ofString "\n"))) (.cons (.con (.str (Str.ofString "\n\nx"))) .nil))))))))))) (.cons (.ife (.not (.val (.call 224 (.cons (.var 4) .nil)))) (.cons (.ret [] (.con (.bl false))) .nil) .nil) .nil)) [a0,a1,.frz (.tup (rows.map .str)) true,a3,a4,a5,a6]=some (.nx [a0,a1,.frz (.tup (rows.map .str)) true,a3,a,a5,a6]):=by
 have e:rN (aC P (k+22)) (.seq (.lst (.cons (.con .non) (.cons (.con (.int 3)) (.cons (.con (.bl true)) (.cons (.tup (.cons (.con (.str (Str.ofString "x"))) .nil)) (.cons (.lst (.cons (.con (.str (Str.ofString "x"))) .nil)) (.cons .dnew (.cons (.con (.str (Str.ofString ""))) (.cons (.con (.str (Str.ofString "\n"))) (.cons (.con (.str (Str.ofString "\n\nx"))) .nil))))))))))) [a0,a1,.frz (.tup (rows.map .str)) true,a3,a4,a5,a6]=some ([.non,.int 3,.bl true,.tup [.str (Str.ofString "x")],.lst [.str (Str.ofString "x")],.dK [] [],.str (Str.ofString ""),.str (Str.ofString "\n"),.str (Str.ofString "\n\nx")],true,false):=by walk_at "ev"
 obtain⟨fl,h1,a,rfl⟩:=eG (Q:=λfl=>∃a,fl=.nx [a0,a1,.frz (.tup (rows.map .str)) true,a3,a,a5,a6]) (is:=[4]) (one:=true) (cap:=[]) (body:=.cons (.ife (.not (.val (.call 224 (.cons (.var 4) .nil)))) (.cons (.ret [] (.con (.bl false))) .nil) .nil) .nil) e (λ_ τ=>∃a,τ=[a0,a1,.frz (.tup (rows.map .str)) true,a3,a,a5,a6]) ⟨_,rfl⟩ (λi x τ hx ⟨a,hτ⟩=>by
   subst hτ;refine⟨_,rfl,?_⟩;have nb:lq x=true:=by
    have:=K9 hx
    revert x
    simp only[LB,Li,NR];rintro x _ (rfl|rfl|rfl|rfl|rfl|rfl|rfl|rfl|rfl)<;>decide +kernel
   have c:=KQ k nb;walk_at "ev";rw[c];walk_at "ev";exact⟨_,rfl⟩) (λτ ⟨a,hτ⟩=>⟨_,rfl,a,by rw[hτ]⟩)
 refine⟨a,?_⟩;have id_:∀f:Fl,d7 f (λτ=>some (Fl.nx τ))=some f:=λf=>by cases f<;>rfl
 simp only[id_]at h1;rw[<- h1];cases di (aC P (k+22)) 1000000 _ _<;>rfl
theorem tw{p:Str}{r:List Str}(h:10∉p.cps.toList):((Str.join NL (p::r)).cps.toList).takeWhile (· !=10)=p.cps.toList:=by
 have a:p.cps.toList.takeWhile (· !=10)=p.cps.toList:=by
  have:=List.takeWhile_append_of_pos (p:=(· !=10)) (l₂:=[]) (λx hx=>by
   have:x≠10:=λe=>h (e▸hx)
   simpa using this)
  simpa using this
 cases r with
 |nil=>exact a|cons y r =>
  rw[tf p (by simp)];show((p.cps++ #[10])++(Str.join NL (y::r)).cps).toList.takeWhile _=_;rw[Np,Np,NV,List.takeWhile_append_of_pos (λx hx=>by
   have:x≠10:=λe=>h (e▸hx)
   simpa using this)]
  show p.cps.toList++List.takeWhile _ (10::_)=_;rw[List.takeWhile_cons_of_neg (by simp),MP]
theorem t5{zs:List Str}(h:10∉a.cps.toList):∃r,Txt.split (Str.join NL (a::zs)) NL=a::r:=by
 have e:=StrLaws.join_split (Str.join NL (a::zs)) NL;have f:=StrLaws.split_free (Str.join NL (a::zs)) 10;cases b:Txt.split (Str.join NL (a::zs)) NL with
 |nil =>have:=PyProof.Rows.split_pos (Str.join NL (a::zs)) NL;rw[b]at this;cases this
 |cons p r =>rw[b]at e;have c:=f p (by rw[show Txt.split (Str.join NL (a::zs)) ⟨#[10]⟩=p::r from b];exact K6);have:=tw (r:=r) c;rw[e,tw h]at this;exact⟨r,by rw[UM.eO this.symm]⟩
theorem Fg{k:Nat}{a0 a1 a3 a4 a5 a6:TV}(f:UM.aW 8 b)(d:Wd b w)(e:w<=8):∃c:List Str,(bP "\n" (bo (b9 b w b.length).length::c)).length<=40000/\di (aC P (k+23)) 1000000 (.asg 5 false [] (.call 218 (.cons (.mth .join (.con (.str (Str.ofString "\n"))) (.cons (.var 2) .nil)) .nil))) [a0,a1,.frz (.tup (b.map .str)) true,a3,a4,a5,a6]=some (.nx [a0,a1,.frz (.tup (b.map .str)) true,a3,a4,.frz (.str (bP "\n" (bo (b9 b w b.length).length::c))) true,a6]) /\ di (aC P (k+23)) 1000000 (.asg 6 false [] (.bf .sum (.cons (.lc (.mth .count (.var 0) (.cons (.con (.str (Str.ofString "x"))) .nil)) (.seq (.var 2)) .no []) .nil))) [a0,a1,.frz (.tup (b.map .str)) true,a3,a4,.frz (.str (bP "\n" (bo (b9 b w b.length).length::c))) true,a6]=some (.nx [a0,a1,.frz (.tup (b.map .str)) true,a3,a4,.frz (.str (bP "\n" (bo (b9 b w b.length).length::c))) true,.frz (.int ((b9 b w b.length).length:Nat)) true]):=by
 have i:=f.few;have n:(b.map (·.length)).sum<=8*b.length:=gk λp hp=>by rw[d p hp];exact e
 have j:(Str.join NL b).length<=1000:=by
  have:=lF λp hp=>by rw[d p hp];exact e
  omega
 obtain⟨_,h,c,rfl,l⟩:=c218 k b w f d e j;have g:=As (cf:=aC P (k+23)) (τ:=[a0,a1,.frz (.tup (b.map .str)) true,a3,a4,a5,a6]) (a:=.var 2) rfl (Or.inl rfl) (by omega);refine⟨c,l,?_,?_⟩
 ·rw[t9,show bD [] [a0,a1,TV.frz (.tup (b.map .str)) true,a3,a4,a5,a6]=[a0,a1,TV.frz (.tup (b.map .str)) true,a3,a4,a5,a6]from rfl]
  rw[cR,pV,pU,g];show(((aC P (k+23) 218 [.str (Str.join NL b)]).map told).bind _)=_;rw[h];rfl
 walk_at "ev";rw[K5 (by rw[Kr];omega),bC (G:=λz=>PV.int (eI z)) (λz hz=>by rw[show ib Bm.count (RV.frz (PV.str z) true) [RV.frz (PV.str (Str.ofString "x")) true]=some (sc (.int (Txt.count z (Str.ofString "x"))))from rfl,show(Str.ofString "x")=⟨#[120]⟩from rfl,lS];rfl)]
 walk_at "ev";rw[show(b.map λz=>PV.int (eI z))=(b.map eI).map PV.int from by rw[Lc];rfl];rw[show ju Bf.sum [RV.own ((b.map eI).map PV.int) true]=(aU ((b.map eI).map PV.int)).map λns=>sc (.int ns.sum)from rfl,bW,Lj,K2,<-rq d];rfl
theorem tY{n:Nat}(h:n<=64):10∉(bo n).cps.toList:=by
 have:∀n:Fin 65,10∉(bo n.val).cps.toList:=by decide +kernel
 exact this ⟨n,by omega⟩
section
open PySem.Spec PyProof.Rows L2.XN XE
theorem nV:ak Hv ["_law_script"] (aI lw):=⟨rfl,rfl,rfl,by decide +kernel,rfl,by decide +kernel,by decide +kernel⟩
abbrev KH:Ct:=⟨Hv,(aI lw).names,F,G,B,[]⟩
def BG(i:Nat):Stmt:=(ai lw).getD i (.Pass ⟨0,0,0,0⟩)
set_option tactic.hygienic true
@[irreducible] def gf(i:Nat):Stmt:=BG i
set_option tactic.hygienic false
theorem Jt:ai lw=[BG 0,BG 1,BG 2,gf 3,gf 4,gf 5,gf 6]:=by kernel_rfl
theorem ev6{n:Nat}{i m:TV}(h:n<=64):aQ d (.bin .Add (.con (.str (Str.ofString "cells "))) (.bf .str (.cons (.var 6) .nil))) [g,j,i,b,f,m,.frz (.int n) true]=some (sc (.str (bo n))):=by
 walk_at "ev";have c:∀n:Fin 65,(n.val:Int).natAbs.log2<1920/\(Str.ofString "cells ").length+(Str.ofString (toString (n.val:Int))).length<=100:=by decide +kernel
 obtain⟨a,l⟩:=c ⟨n,by omega⟩;have e:wR (.int n)=some (sc (.str (Str.ofString (toString n)))):=K5 a;rw[e,K2];exact K5 (LM l (by decide))
theorem mf{n:Nat}(h:n<=64):pA 12 (.str (bo n))=true:=by
 have:∀n:Fin 65,pA 12 (.str (bo n.val))=true:=by decide +kernel
 exact this ⟨n,by omega⟩
theorem A8{n:Nat}(g:a.length=n)(b:1<=n)(j:n<=8)(h:1<=w)(f:w<=8)(d:∀r∈a,r.length=w/\∀c∈r.cps.toList,c=120\/c=46):UM.aW 8 a:=by
 refine eY.mp ?_;have e:(a.headD "").length=w:=by
  cases a with
  |nil=>rw[<- g]at b;exact absurd b (by simp)|cons r i=>exact(d r K6).1
 unfold ja;simp only[Kt,MI,LL,MG,Lx];rw[e];exact⟨⟨⟨⟨by omega,by omega⟩,λz hz=>d z hz⟩,h⟩,f⟩
theorem Jg{K:W.Frag}{fn fs:Addr}(hG:∀x v,G.lookup x=some v->∃u w,d x=some u/\RelV w u/\∀Hi n H,Rp K Hi n v H w)(S:∀x,B.contains x=true->d x=none)
  (DN:eh K d "_law_next" p8 ["_law_drawn"] fn a7) (DO:eh K d "_law_order" wf ["_law_drawn","_law_many"] fo b5) (DS:eh K d "_law_stair" tE ["_law_drawn","_law_rows","_law_columns"] fs a9) (T:eh K d "_law_board" B9 ["_law_drawn"] fb a2) (O:eh K d "_law_spoilt" tD ["_law_board_here","_law_drawn"] fp a') (Df:eh K d "law" lw ["_law_script"] f fd)   {m:Heap}
  (c:∀j y g,F.lookup y=some g->∃b N L,d y=some (.ref b)/\W.keepIn K (.ref b)=true/\Binds K N L []/\aq p w K d m dI j b N L (kB K (aC P j g))):aq p w K d m dI 40 f fd ["_law_script"] (ut K):=by
 have FB:=(A7 (k:=35) hG S DN DO DS T (c 37)).mono (show 39<=39 by omega);have FP:=(wU (k:=36) hG S DN O (c 38)).mono (show 39<=39 by omega);obtain⟨b',c4,b7,d1,d2,d3,FD⟩:=c 39 "_law_draws" 219 rfl;obtain⟨br,b8,b6,r1,r2,r3,FR⟩:=c 39 "_law_refused" 224 rfl;refine Df.fn.ok nV (λvs H Q E h=> ?_) (λcdv A outer s H vs Q E hr h=> ?_)
 ·obtain⟨a,ns,rfl,_⟩:=h
  rfl
 obtain⟨a,ns,rfl,hS,b2,q⟩:=h;have nd:=nV.nd
 have J:bS (aC P 39) (dg dI p w K d m Hv "law" (aI lw) f cdv A outer s H E).nox KH :=
  ⟨rfl,nV.nd,rfl,nV.kind,rfl,hG,S,λy g hy=>by obtain⟨b,N,L,z1,z2,z3,z4⟩:=c 39 y g hy;exact⟨39,b,N,L,z4,hr,z1,z2,z3⟩,Lq,hr.units⟩
 rw[Jt]
 refine⟨_,aF (ao (i:=1) nd rfl (Or.inl rfl) (ag FD hr rfl d1 d2 d3 .nil bZ (aB (pv 0) aH))) (aF (ao (i:=2) nd rfl (Or.inl rfl) (ag FB hr rfl T.nm T.fn.kp T.bd .nil bZ (aB (pv 1) aH))) (aF (du Lq rfl (cD rfl (S "range" rfl) (aB bA aH)) (av (i:=3) nd rfl (Or.inl rfl)) (aO (gW (ni (nh (ag FR hr rfl r1 r2 r3 .nil bZ (aB (ag FP hr rfl O.nm O.fn.kp O.bd .nil bZ (aB (pv 2) (aB (pv 1) aH))) aH)))) ay bF))) ay)),?_⟩
 obtain⟨_,D,C,rfl⟩:=c219 38 ns b2;refine⟨_,rfl,[.lst (ns.map .int)],_,.cons (Rp.lst.mpr ⟨a,_,rfl,(λz=>by cases z),hS,aJ.ints.mpr rfl⟩) .nil,D,λu H1 s1 ru=> ?_⟩;obtain⟨l,us,rfl,nw,sl,rl⟩:=Rp.lst.mp ru;have I:=aJ.ints.mp rl;subst I;have h1:=(nw rfl).2;refine⟨_,rfl,l,C,rfl,h1,λn w' n1 n8 w1 w8 rows t H2 c2 t0 e2 rl sg=> ?_⟩;have bd:=A8 rl n1 n8 w1 w8 sg;have hw:Wd rows w' :=λr hr=>(sg r hr).1;have tl:t≠l:=λe=>by rw[e,h1]at t0;cases t0
 refine⟨3,rfl,by decide,by decide,?_⟩;refine eF (lo:=0) (n:=(3:Int).toNat) (λi σ G=>∃(b:Option V)(C:List Int),σ=[some (.ref a),some (.ref l),some (.ref t),b,none,none,none]/\G t=some (.tup (rows.map V.str))/\G l=some (.lst (C.map V.int))) ⟨_,_,rfl,e2,c2.1.choose_spec⟩ ?_ ?_
 ·rintro i σ G hi ⟨b,C,rfl,U,gl⟩
  refine⟨_,rfl,_,rfl,t,l,C,rows,rfl,tl,bd,U,gl,λz G1 c1 nb=> ?_⟩;refine⟨[.str z],.bl true,.cons (Rp.str.mpr rfl) .nil,KQ 17 nb,λu G2 s2 ru=>⟨true,Rp.bl.mp ru,ij ?_⟩⟩;obtain⟨b3,Y⟩:=c1.1;exact⟨_,b3,rfl,s2 _ _ (c1.2 _ _ tl U),s2 _ _ Y⟩
 ·rintro σ G ⟨b,C,rfl,U,gl⟩
  have R:aY K G [] [.un,.un,.frz (.tup (rows.map .str)) true,.un,.un,.un,.un] [some (.ref a),some (.ref l),some (.ref t),b,none,none,none] G :=
   aY.consU (aY.consU (aY.consF (aY.consU (aY.consU (aY.consU (aY.consU JI)))) (Rp.tup.mpr ⟨t,_,rfl,cU.of (by rw[kK];exact U),aJ.strs2⟩)))
  obtain⟨a4,b0⟩:=row3 (k:=17) (rows:=rows) (a0:=.un) (a1:=.un) (a3:=.un) (a4:=.un) (a5:=.un) (a6:=.un);obtain⟨zs,lb,X,a8⟩:=Fg (k:=16) (a0:=.un) (a1:=.un) (a3:=.un) (a4:=a4) (a5:=.un) (a6:=.un) bd hw w8;refine iF (aF fJ ay) ?_;refine GI (n:=80) J rfl (by kernel_rfl) b0 R rfl λσ1 G1 O1 R1 L1 s1=> ?_;refine iF (aF fJ ay) ?_;refine GI (n:=80) J rfl (by kernel_rfl) X R1 L1 λσ2 G2 O2 R2 L2 s2=> ?_;refine iF (aF fJ ay) ?_;refine GI (n:=80) J rfl (by kernel_rfl) a8 R2 L2 λσ3 G3 O3 R3 L3 s3=> ?_;obtain⟨u5,g5,r5⟩:=R3.frz 5 _ _ rfl;have b4:=Rp.str.mp r5;subst b4;obtain⟨Z,hZ⟩:∃Z,Z=bP "\n" (bo (b9 rows w' rows.length).length::zs):=⟨_,rfl⟩;have M:(b9 rows w' rows.length).length<=64:=LM (lh rows w' rows.length) (by have:=NT (show rows.length<=8 by omega) w8;omega);obtain⟨rr,o⟩:=t5 (zs:=zs) (tY M)
  replace o:Txt.split Z NL=bo (b9 rows w' rows.length).length::rr:=by rw[ip]at o;rw[hZ];exact o
  rw[<- hZ]at g5 R3 lb;rw[show gf 6=BG 6 by unfold gf;rfl];refine iF (aO (bc (kx aT (tJ (vD (tN (Hi:=G3) hr.units) (ku eS (gX Mm PySem.F.slot_str_split PySem.F.type_str_split qX (pv 5) (aB bV aH)) bA (λ_ _=>rfl)) aT (tU _)))))) ?_;refine e_w (n:=80) (e' :=.bf (.isin "str") (.cons (.var 5) .nil)) (r:=sc (.bl true)) J (by kernel_rfl) rfl R3 λu G4 s4 ok=> ?_;have I:u=.bl true:=by cases ok;rfl
  subst I;refine⟨true,rfl,?_⟩;rw[K5 rfl];refine⟨_,g5,rfl,_,_,rfl,rfl,rfl,by rw[Lp];omega,λl hl=> ?_⟩;have sG:aE G3 (upd G4 l (HO.lst (List.map V.str (Txt.split Z (Str.ofString "\n"))))):=s4.trans (aM hl _);refine⟨l,_,0,.str (bo (b9 rows w' rows.length).length),rfl,rfl,bJ.of aD,?_,?_⟩
  ·show dH ((Txt.split Z NL).map V.str) 0=_
   rw[o];exact KZ
  refine e_w (n:=80) J (by kernel_rfl) (ev6 M) (R3.ext sG) λu G5 s5 ok=> ?_;have I:u=.str (bo (b9 rows w' rows.length).length):=by cases ok;rfl
  subst I;refine⟨.str _,.str _,?_,?_,Rp.str.mpr rfl,Rp.str.mpr rfl,?_⟩;exact mf M;exact mf M
  have e:uC (.str (bo (b9 rows w' rows.length).length)) (.str (bo (b9 rows w' rows.length).length))=true:=by unfold uC;exact LU rfl
  rw[e];exact q _
end
end Law
namespace Law
open PySem PySem.Spec PyProof.Rows L2 IR
abbrev pD(d:Str)(e:List Str)(c:Stmt):Prop:=∀(g a f:Value)(h:Option Addr)(b ct:Value)(us:List Value),us.length=e.length->bindArgs (W.fnOf d d (bw c) (ai c) (aI c) .none g a f h b ct) ⟨us,[]⟩=pure (e.zip us)
local macro_rules | `(tactic| walk_at "bd1") => `(tactic| (intro _ _ _ _ _ _ us hl; obtain ⟨_, h⟩ := AE hl; subst h; rfl))
local macro_rules | `(tactic| walk_at "bd2") => `(tactic| (intro _ _ _ _ _ _ us hl; obtain ⟨_, _, h⟩ := DA hl; subst h; rfl))
local macro_rules | `(tactic| walk_at "bd3") => `(tactic| (intro _ _ _ _ _ _ us hl; obtain ⟨_, _, _, h⟩ := Jf hl; subst h; rfl))
local macro_rules | `(tactic| walk_at "bd4") => `(tactic| (intro _ _ _ _ _ _ us hl; obtain ⟨_, _, _, _, h⟩ := len4 hl; subst h; rfl))
local macro_rules | `(tactic| walk_at "sc") => `(tactic| exact ⟨rfl, rfl, rfl, by decide +kernel, rfl, by decide +kernel, by decide +kernel⟩)
theorem nO{K:W.Frag}(X:K.In h)(b:h.Ns mainGlobals a)(z:W.nsIn K mainGlobals x=some none):a x=none:=W.mg_none_of X b z
section
variable{K:W.Frag}{h:Heap}{mg:Str->Option Value}{nm:Str}{ps:List Str}{st:Stmt}{f:Addr}{k:Nat}{oc kV doc pm cd ct:Value}{od an:Option Addr}{sl:Array (Option Value)}(X:K.In h)(Gh:h.Ns mainGlobals mg)(a:FI K nm st f oc kV doc pm cd ct od an sl)
include X Gh a
theorem sF(b:pD nm ps st):eh K mg nm st ps f (W.fnOf nm nm (bw st) (ai st) (aI st) .none kV doc pm an cd ct):=⟨AZ a.l a.c a.k,OI X Gh a.a,(AZ a.l a.c a.k).binds b⟩
theorem mkE(N:List Str)(n:Nat)(M:List Nat){body:kO}(b:pD nm (N.take n) st)(d:ak N (N.take n) (aI st))(e:P k=some ⟨N.length,(N.take n).length,body⟩)(c:d6 80 ⟨N,(aI st).names,F,G,B,M⟩ (ai st)=body):xy K mg P F G B nm k f (W.fnOf nm nm (bw st) (ai st) (aI st) .none kV doc pm an cd ct) (N.take n):=⟨.inr ⟨st,N,M,80,body,sF X Gh a b,d,e,c⟩⟩
omit a in
theorem j7(a:FX K nm st)(N:List Str)(n:Nat)(M:List Nat){body:kO}(b:pD nm (N.take n) st)(i:ak N (N.take n) (aI st))(e:P k=some ⟨N.length,(N.take n).length,body⟩)(c:d6 80 ⟨N,(aI st).names,F,G,B,M⟩ (ai st)=body):∃a g d,xy K mg P F G B nm k a g d:=by obtain⟨_,_,_,_,_,_,_,_,_,_,a⟩:=a;exact⟨_,_,_,mkE X Gh a N n M b i e c⟩
end
set_option tactic.hygienic false
theorem Hk{l:W.OpenLaw}{K:W.Frag}{h:Heap}{o:Str->Option Value}(X:K.In h)(c:h.Ns mainGlobals o)(c8:o "law"=some (.ref fa))(T:Ke K) :
  ∃S:FuncData,(∀(s:Shared)(v:Value),BindsTo s S ⟨[v],[]⟩ [("_law_script",v)])/\∀m:Heap,K.In m->m.Ns mainGlobals o->aq l.prog w K o m dI 40 fa S ["_law_script"] (ut K):=by
 have M:∀x,B.contains x=true->o x=none:=dh (nO X c T.z0) (dh (nO X c T.z1) (dh (nO X c T.z2) (dh (nO X c T.z3) (dh (nO X c T.z4) (dh (nO X c T.z5) (dh (nO X c T.z6) (dh (nO X c T.z7) (dh (nO X c T.z8) (dh (nO X c T.z9) (dh (nO X c T.z10) (dh (nO X c T.z11) (dh (nO X c T.z12) (dh (nO X c T.z13) (dh (nO X c T.z14) (bnil)))))))))))))));have Q:∀x v,G.lookup x=some v->∃u w,o x=some u/\RelV w u/\∀Hi n H,Rp K Hi n v H w:=by obtain⟨k0,v0⟩:=T.v0;obtain⟨k1,v1⟩:=T.v1;obtain⟨k2,v2⟩:=T.v2;exact AY ⟨_,(.str "x"),OI X c v0,⟨_,rfl⟩,λ_ _ _=>Rp.str.mpr rfl⟩ (AY ⟨_,(.str "."),OI X c v1,⟨_,rfl⟩,λ_ _ _=>Rp.str.mpr rfl⟩ (AY ⟨_,(.int 8),OI X c v2,⟨_,rfl⟩,λ_ _ _=>Rp.int.mpr rfl⟩ (gnil)))
 obtain⟨g0,g1,g2,g3,g4,gi,_,_,_,_,_,_,_,_,_,_,_,_,_,_,_,_,_,_,C⟩:=T.cx;have d:BU K o g0 g1 g2 g3 g4 gi _:=⟨⟨C.j0,⟨_,C.i1,rfl⟩,C.h0,⟨C.e0,C.e1,C.e2,C.e3,C.e4,C.e5,C.e6,by rw[C.yc0];rfl⟩,C.h1,C.h2,C.h3,C.h4⟩,⟨OI X c C.y0,by rw[C.yc0];rfl,C.yt0⟩,⟨OI X c C.y1,by rw[C.yc1];rfl,C.yt1⟩,⟨OI X c C.y2,by rw[C.yc2];rfl,C.yt2⟩,⟨OI X c C.y3,by rw[C.yc3];rfl,C.yt3⟩,⟨OI X c C.y4,by rw[C.yc4];rfl,C.yt4⟩,C.b0,C.b1,C.b2,C.b3,C.b4,C.b5,C.b6,C.n0,C.n1,C.n2,⟨_,_,_,_,_,_,_,_,_,_,_,_,_,_,rfl,C.i1,C.i2,C.i3⟩⟩;have cls:ED K o g0 g1 g2 g3 g4 gi _:=⟨d,C.Q0,C.Q1,C.Q2,C.P0,C.P1,C.P2,C.R0.sD,C.b7,C.R0.kin d d.k1.cl (λ_=>rfl) (λz=>absurd z C.n3) (λz=>absurd z.symm C.n0) (λz=>absurd z C.n4),C.R1.kin d d.k2.cl (λz=>absurd z.symm C.n3) (λ_=>rfl) (λz=>absurd z.symm C.n1) (λz=>absurd z C.n5),C.R2.kin d d.kC.cl (λz=>absurd z C.n0) (λz=>absurd z C.n1) (λ_=>rfl) (λz=>absurd z C.n2),C.R3.kin d d.k3.cl (λz=>absurd z.symm C.n4) (λz=>absurd z.symm C.n5) (λz=>absurd z.symm C.n2) (λ_=>rfl)⟩;obtain⟨f6,p6,t6,u6,w6,y6,m6,q6,x6,r6,a6⟩:=T.a6;have R:=sF X c a6 (show pD "with_line" ["levels","bits"] _ by walk_at "bd2");obtain⟨D',w2,f8,t4,r4,w3,o3,j6,w',h9,Z⟩:=T.a14;have J:=sF X c Z (show pD "takes_column" ["choices","holders","row","tried"] _ by walk_at "bd4");obtain⟨g7,D8,o',p',r2,f',l8,u1,l3,g8,d'⟩:=T.a15;have E:=sF X c d' (show pD "holders_of" ["choices"] _ by walk_at "bd1");obtain⟨m5,k',g5,v',w0,w7,q8,C1,q1,s9,c9⟩:=T.a21;have c5:=sF X c c9 (show pD "steps_of" ["board"] _ by walk_at "bd1");obtain⟨k5,C0,j3,t',u3,F4,C',k6,l4,m3,b'⟩:=T.a22;have d5:=sF X c b' (show pD "factors_of" ["board"] _ by walk_at "bd1");obtain⟨j5,v8,l2,s7,l9,f9,j',m2,l',m1,f0⟩:=T.a23;have i:=sF X c f0 (show pD "read_board" ["text"] _ by walk_at "bd1");obtain⟨u0,E2,q5,w8,r0,o1,p1,m4,m0,D0,f1⟩:=T.a26;have q:=sF X c f1 (show pD "words_of_factors" ["board"] _ by walk_at "bd1");obtain⟨m',E',x7,r',B0,h8,x0,u5,h5,s5,U⟩:=T.a27;have Y:=sF X c U (show pD "report" ["text"] _ by walk_at "bd1");obtain⟨s6,j1,D3,y',j4,p3,q2,m8,q9,t3,c7⟩:=T.a29;have N:=sF X c c7 (show pD "_law_next" ["_law_drawn"] _ by walk_at "bd1");obtain⟨p5,q3,h6,l0,p2,x1,y5,x2,p0,w1,a'⟩:=T.a30;have I:=sF X c a' (show pD "_law_order" ["_law_drawn","_law_many"] _ by walk_at "bd2");obtain⟨r5,q4,s',t0,D4,j2,g',r3,n7,s4,c4⟩:=T.a31;have r:=sF X c c4 (show pD "_law_stair" ["_law_drawn","_law_rows","_law_columns"] _ by walk_at "bd3");obtain⟨A',f5,u4,n',i0,h7,w4,o4,F',F0,c'⟩:=T.a32;have L:=sF X c c' (show pD "_law_board" ["_law_drawn"] _ by walk_at "bd1");obtain⟨o2,q0,u2,s8,r1,t2,f4,p4,f7,k4,e9⟩:=T.a33;have A:=sF X c e9 (show pD "_law_refused" ["_law_thing"] _ by walk_at "bd1");obtain⟨q7,l1,i4,g6,z',i',r8,q',x',n8,f2⟩:=T.a34;have e':=sF X c f2 (show pD "_law_spoilt" ["_law_board_here","_law_drawn"] _ by walk_at "bd2");obtain⟨r7,u',c6,e8,d4,e7,b8,B',f3,h',O⟩:=T.a35;have e:=c8.symm.trans (OI X c O.a);cases e;have D:=sF X c O (show pD "law" ["_law_script"] _ by walk_at "bd1");have hF:∀x f,F.lookup x=some f->∃a S ps,xy K o P F G B x f a S ps:=ar (j7 (k:=0) X c T.a0 N0 1 [] (by walk_at "bd1") (by walk_at "sc") rfl (by kernel_rfl)) (ar (j7 (k:=1) X c T.a1 N1 1 [] (by walk_at "bd1") (by walk_at "sc") rfl (by kernel_rfl)) (ar (j7 (k:=2) X c T.a2 N2 1 [] (by walk_at "bd1") (by walk_at "sc") rfl (by kernel_rfl)) (ar (j7 (k:=3) X c T.a3 N3 1 [1] (by walk_at "bd1") (by walk_at "sc") rfl (by kernel_rfl)) (ar (j7 (k:=109) X c T.a4 N109 1 [] (by walk_at "bd1") (by walk_at "sc") rfl (by kernel_rfl)) (ar (j7 (k:=46) X c T.a5 N46 1 [1] (by walk_at "bd1") (by walk_at "sc") rfl (by kernel_rfl)) (ar ⟨_,_,_,⟨.inl ⟨R.nm,R.fn.kp,R.bd,λp w b k z=>Gs (M "dict" rfl) (M "enumerate" rfl) R p w b k (z k (Ky k))⟩⟩⟩ (ar (j7 (k:=48) X c T.a7 N48 1 [] (by walk_at "bd1") (by walk_at "sc") rfl (by kernel_rfl)) (ar (j7 (k:=58) X c T.a8 N58 2 [] (by walk_at "bd2") (by walk_at "sc") rfl (by kernel_rfl)) (ar (j7 (k:=85) X c T.a9 N85 2 [] (by walk_at "bd2") (by walk_at "sc") rfl (by kernel_rfl)) (ar (j7 (k:=86) X c T.a10 N86 2 [] (by walk_at "bd2") (by walk_at "sc") rfl (by kernel_rfl)) (ar (j7 (k:=92) X c T.a11 N92 2 [] (by walk_at "bd2") (by walk_at "sc") rfl (by kernel_rfl)) (ar (j7 (k:=98) X c T.a12 N98 4 [] (by walk_at "bd4") (by walk_at "sc") rfl (by kernel_rfl)) (ar (j7 (k:=99) X c T.a13 N99 1 [] (by walk_at "bd1") (by walk_at "sc") rfl (by kernel_rfl)) (ar ⟨_,_,_,⟨.inl ⟨J.nm,J.fn.kp,J.bd,fZ (dX rfl)⟩⟩⟩ (ar ⟨_,_,_,⟨.inl ⟨E.nm,E.fn.kp,E.bd,λp w b k z=>Db (M "len" rfl) (M "range" rfl) J E p w b k (z k (Ky k))⟩⟩⟩ (ar (j7 (k:=112) X c T.a16 N112 2 [] (by walk_at "bd2") (by walk_at "sc") rfl (by kernel_rfl)) (ar (j7 (k:=113) X c T.a17 N113 2 [2,3] (by walk_at "bd2") (by walk_at "sc") rfl (by kernel_rfl)) (ar (j7 (k:=114) X c T.a18 N114 1 [] (by walk_at "bd1") (by walk_at "sc") rfl (by kernel_rfl)) (ar (j7 (k:=141) X c T.a19 N141 2 [] (by walk_at "bd2") (by walk_at "sc") rfl (by kernel_rfl)) (ar (j7 (k:=142) X c T.a20 N142 1 [] (by walk_at "bd1") (by walk_at "sc") rfl (by kernel_rfl)) (ar (j7 (k:=143) X c T.a21 Kk 1 [] (by walk_at "bd1") (by walk_at "sc") rfl (by kernel_rfl)) (ar (j7 (k:=144) X c T.a22 Kj 1 [] (by walk_at "bd1") (by walk_at "sc") rfl (by kernel_rfl)) (ar ⟨_,_,_,⟨.inl ⟨i.nm,i.fn.kp,i.bd,λp w b k z=>Gu Q M i p w b k (z k (Ky k))⟩⟩⟩ (ar (j7 (k:=215) X c T.a24 N215 1 [] (by walk_at "bd1") (by walk_at "sc") rfl (by kernel_rfl)) (ar (j7 (k:=216) X c T.a25 N216 1 [] (by walk_at "bd1") (by walk_at "sc") rfl (by kernel_rfl)) (ar ⟨_,_,_,⟨.inl ⟨q.nm,q.fn.kp,q.bd,Da Q M cls d5 c5 q⟩⟩⟩ (ar (j7 (k:=218) X c T.a27 Ki 1 [] (by walk_at "bd1") (by walk_at "sc") rfl (by kernel_rfl)) (ar (j7 (k:=219) X c T.a28 N219 1 [1,3,4] (by walk_at "bd1") (by walk_at "sc") rfl (by kernel_rfl)) (ar ⟨_,_,_,⟨.inl ⟨N.nm,N.fn.kp,N.bd,fZ (dX rfl)⟩⟩⟩ (ar ⟨_,_,_,⟨.inl ⟨I.nm,I.fn.kp,I.bd,fZ (dX rfl)⟩⟩⟩ (ar ⟨_,_,_,⟨.inl ⟨r.nm,r.fn.kp,r.bd,fZ (dX rfl)⟩⟩⟩ (ar ⟨_,_,_,⟨.inl ⟨L.nm,L.fn.kp,L.bd,fZ (dX rfl)⟩⟩⟩ (ar ⟨_,_,_,⟨.inl ⟨A.nm,A.fn.kp,A.bd,DZ Q M cls Y i A⟩⟩⟩ (ar (j7 (k:=225) X c T.a34 xo 2 [5] (by walk_at "bd2") (by walk_at "sc") rfl (by kernel_rfl)) (ar ⟨_,_,_,⟨.inl ⟨D.nm,D.fn.kp,D.bd,fZ (dX rfl)⟩⟩⟩ (fnil))))))))))))))))))))))))))))))))))));refine⟨W.fnOf "law" "law" (bw lw) (ai lw) (aI lw) .none c6 e8 d4 f3 e7 b8,λs v=>.of_eq rfl,λbase _ _=> ?_⟩;exact Jg Q M N I r L e' D λj y g hy=>by obtain⟨b,gd,qs,dy⟩:=hF y g hy;obtain⟨z1,z2,z3⟩:=dy.def;exact⟨b,gd,qs,z1,z2,z3,G7 Q M hF j y g b gd qs dy⟩
theorem walk{l:W.OpenLaw}{q:Program}{c:List Str}{o:(Str->Option Value)->Heap->Prop}{j:World->Heap->Prop}{d:DefRec}{K:Params->W.Frag}(p:l.most=some 63)(g:d.params.defaults=[])
  (r:∀(w:World)(h:Heap),j w h->(K w.params).In h)
  (F:∀(w:World)(e:Str->Option Value)(i:Addr)(h:Heap),(K w.params).In h->h.Ns mainGlobals e->e d.name=some (.ref i) -> ∃m:FuncData,(∀(s:Shared)(u:Value),BindsTo s m ⟨[u],[]⟩ [("_law_script",u)])/\∀b:Heap,(K w.params).In b->b.Ns mainGlobals e->aq l.prog w (K w.params) e b dI 40 i m ["_law_script"] (ut (K w.params))) :
  W.WalkO q c o j l.row.toRowW d [] (λf vs=>PySem.call f vs) :=
 L2.Be p (by decide) g ⟨rfl,by decide,by decide⟩ r F (λ_ _ a ns hl _ hS=>⟨a,ns,rfl,hS,hl,λ_=>rfl⟩) λ_ _ _ _ _ z=>z
end Law
theorem PySem.Challenge.cw_unstruck_k82_report_refused_holds : PySem.Challenge.rw_unstruck_k82_report_refused.Holds := by
 refine LH.head fun K YP d hn hd hY T=> ?_;exact Law.walk (l:=PySem.Challenge.rw_unstruck_k82_report_refused) rfl hd hY fun w mg fa h X G m=>Law.Hk X G (by rw[<- hn];exact m) (T w)
#print axioms PySem.Challenge.cw_unstruck_k82_report_refused_holds
