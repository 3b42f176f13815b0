import PyProof.Rows.All
import Wide.All
import OpenK.AllK
import Wide.FinOn
import Lean
import PyProof.EqAt
import PyProof.EqKinds
import PyProof.TupleCall
import PyProof.AttrMissHeap
import PyProof.Rows.RegFStrParts
import KE.KIntText
import PySem.Challenge.RW_noteboard_k15_whole_texts_there_and_back
set_option compiler.extract_closed false
set_option Elab.async false
set_option linter.all false
set_option maxRecDepth 100000
open PySem renaming PyData -> Aa, wpAny_bind -> Ad, Value -> Aj, Shared -> Ao, wpAny_pure -> Ap, sizeLine -> A6, starEach -> A8, wpAny -> Bd, model -> Bn, Program -> Bs, compareOp -> B4, World -> B5, wpAny_callSpecial?_slot -> B9, wpAny_newObj_type -> Cc, bootBuiltins -> Cf, Around -> Cj, wpAny_call_entry -> Cp, FuncData -> C1, wpAny_field -> C3, wpAny_seqItems -> Dd, rawInt -> De, backTo -> Df, wpAny_truthy_bool -> Di, wpAny_mono -> Dn, wpAny_holding -> Dv, behindInMarks -> Dw, wpAny_setField -> Dx, mainGlobals -> Dz, strKind -> Ec, assignEach -> Ee, wpAny_setEntries_of -> Eh, wpAny_setField_rec -> El, wpAny_pyIter_tuple -> Em, IsPair -> En, sizeLine_eq -> Eu, foldedSetIterable -> Ex, Builtin -> Ez, wpAny_attempt -> E3, sysModules -> E4, pyNext -> E5, attributeBase -> E6, Keyword -> Fb, firstArgMember -> Fc, binaryOp -> Fd, SetTable -> Ff, Scope -> Fl, swapsWith -> Fw, wpAny_setState_of -> Fz, mem_of_lookup -> F3, keywordEach -> F7, isSubtype_type -> F8, wpAny_isInstance -> Gb, codeAny_builtin -> Gj, wpAny_pyIter_enum -> Gq, wpAny_fieldsOf -> Gr, codeAny -> Gs, wpAny_rule -> Gz, sliceBounds -> G1, wpAny_passesOwn -> G3
open List renaming length_map -> Ab, mem_cons_self -> Ae, mem_cons_of_mem -> Af, length_append -> Ah, length_cons -> Am, mem_cons -> Aq, getElem?_eq_getElem -> Ar, length_singleton -> As, mem_singleton -> Au, not_mem_nil -> Av, set -> Aw, mem_append -> Ax, mem_append_right -> Az, map_cons -> A3, append_nil -> A5, append_assoc -> A9, size_toArray -> Bb, map_append -> Bc, all_eq_true -> Be, getElem?_cons_zero -> Bg, getElem?_map -> Bh, mem_map -> Bi, getElem?_cons_succ -> Bm, map_nil -> Bo, set_cons_zero -> Br, getElem?_eq_some_iff -> Bu, mem_append_left -> Bx, nil_append -> Bz, set_cons_succ -> B7, range -> Ce, mem_flatMap -> Cg, map_map -> Ck, flatMap_append -> Cy, replicate -> C0, map_eq_nil_iff -> C6, map_eq_cons_iff -> Da, length_nil -> Dc, mem_range -> Dh, getElem?_set_ne -> Dm, toArray -> Dp, length_set -> Dt, find?_cons -> Du, mem_of_getElem? -> D4, getElem?_replicate -> D9, map -> Ea, all_map -> Ep, map_congr_left -> Ey, length_take -> E1, length -> E8, eq_nil_of_length_eq_zero -> E9, nodup_cons -> Fh, any_cons -> Fk, getElem?_eq_none -> Fn, flatMap_cons -> Fo, map_id -> Fy, take_length -> F0, getElem_mem -> F1, not_lt -> Ge, getElem?_set_self' -> Gf, length_replicate -> Gp, mem_of_mem_take -> Gw, mem_map_of_mem -> G0, getLast?_eq_none_iff -> G6, getElem?_append_left -> G7, drop_eq_getElem_cons -> G8, pairwise_singleton -> G9
open PySem.W renaming Frag -> Ag, mg_of -> Ci, keepIn -> C2, kia_one -> Dg, kas_rev -> Ew, fnOf -> Fv
open PySem.Heap renaming get?_push_of_some -> Ai, lt_size -> A0, get?_push_size -> Ba, get?_update_self -> Ca, size_push -> Cs, SameBut -> Dj, get?_update_other -> Ed
open Bool renaming and_eq_true -> Ak, false_ne_true -> Al, false_eq_true -> Cb, true_and -> Cm, or_eq_true_iff -> Cz, or_true -> Dk, false_and -> E2, eq_iff_iff -> Fj, eq_false_iff -> Fq, true_or -> Gk, and_false -> Gm, or_eq_true -> Gy
open And renaming intro -> An
open Nat renaming le_refl -> Ay, le_trans -> A4, zero_le -> Bf, ne_of_lt -> Bq, lt_of_lt_of_le -> By, le_of_ble_eq_true -> Cn, lt_succ_of_lt -> Dq, ne_of_gt -> Ef, ne_of_beq_eq_false -> Eg, le_add_right -> E7, lt_of_le_of_lt -> Fg, lt_irrefl -> Fm, le_of_lt -> Gn, lt_succ_self -> Gt
open PySem.PyData renaming str -> A7, eqv -> Bp, strOk -> Bw, eqvAll -> D0, tuple -> Fx, weight -> F6, depth -> Gg, canLay0 -> Gh, showable -> Gv
open PyProof.Rows.KTD renaming datumAt -> Bj
open PySem.Str renaming ofString -> Bt
open PySem.Heap.SameBut renaming update -> Bv
open PySem.Value renaming none -> B1, ref -> B8, str -> D7, type -> D8
open Option.some renaming inj -> B3
open Int renaming toNat_natCast -> B6, natCast_nonneg -> G4, emod_lt_of_pos -> G5
open PySem.Obj renaming data_mapFields -> Co, mapSeq -> C7, isFreed_of_fields -> Dy, putSet -> Et, cls_mapFields -> Ft
open PySem.Builtin.SmallTypes renaming nextOf -> Cq, ownedTupleIsFree -> Ct, ownedTupleHandOut -> G2
open List.cons renaming inj -> Cr
open Option renaming bind -> Cu, map -> C9
open Or renaming inr -> Cw, inl -> Dr
open ToString renaming toString -> C4
open Array renaming length_toList -> C5, getElem?_eq_getElem -> Ek
open PySem.PyData.tuple renaming inj -> C8
open PyProof.Rows renaming seqObj -> Dl, envOfC -> D2, callWith_type1 -> D3, slot_tuple_getitem -> Ej
open PySem.Txt renaming split -> D1, join -> D6
open PySem.Builtin.List renaming listExtendWith -> D5, listTooLong -> Ei, listSameRef -> Gx
open Exists renaming intro -> Eb
open PySem.SetTable renaming grown -> Er, below -> Es
open PySem.Builtin.Slice renaming slicePlaces -> Fi, sliceAdjust -> Gu
open PySem.Builtin.Tuple renaming tupleExact -> Fp
open Sum renaming inr -> Fs
open PySem.Around renaming under_plainId -> Fu
open PySem.AutoSeq1 renaming wpAny_loadPart' -> F2
open PySem.F renaming args_tuple_add_2 -> F4, slot_tuple_iterator_next -> F5, plainAttrs_list -> F9, entry_tuple_add -> Ga, slot_tuple_add -> Gd, slot_zip_next -> Gi
open True renaming intro -> Gc
open PySem.W.Fast renaming te14364793385576792824 -> Ha, te14082659384304107361 -> Hb, te4187177175401517315 -> Hd
open Option renaming some -> ae, none -> af
open Bool renaming true -> ah, false -> ai
noncomputable section
local macro_rules|`(tactic|omega)=>`(tactic|lia)
local macro_rules|`(⋯)=>`(by omega)
local macro_rules|`(∅)=>`(by decide +kernel)
local macro_rules|`(∎)=>`(by decide)
local macro_rules|`(↑$x)=>`(Option.some (.w (.d $x)))
set_option maxHeartbeats 4000000
namespace L2
open PySem PySem.Spec PyProof.Rows
def my(s:Stmt):Arguments:=match s with
 |.FunctionDef _ a _ _ _ _ _ _ _ _=>a
 |_=>{ posonlyargs:=[],args:=[],vararg:=af,kwonlyargs:=[],kw_defaults:=[],kwarg:=af,defaults:=[]}
def gB(s:Stmt):List Stmt:=match s with
 |.FunctionDef _ _ b _ _ _ _ _ _ _=>b
 |_=>[]
def dh(s:Stmt):Fl:=match s with
 |.FunctionDef _ _ _ _ _ _ sc _ _ _=>sc
 |_=>{ kind:=.function,names:=[],isGenerator:=ai,isCoroutine:=ai}
end L2
namespace Nb
open PySem L2
def c8(i:Nat):Stmt:=PySem.Challenge.pw_noteboard_k15_whole_texts_there_and_back.main.body.getD i (.Pass ⟨0,0,0,0⟩)
abbrev Je:Stmt:=c8 91
abbrev Yt:Stmt:=c8 97
abbrev M8:Stmt:=c8 98
abbrev rf:Stmt:=c8 115
abbrev J4:Stmt:=Yt
abbrev Kh:Stmt:=M8
abbrev oT(t:String)(d:Data):Obj:=⟨.type t,af,d,#[]⟩
structure Ds where
 i:Nat
 x:Str
 t:Nat
 l:Nat
 n:Nat
 r:Nat
 b:Bool
 v:Nat
 m:Nat
abbrev Ds.c(d:Ds):Nat:=if d.b then d.r+5 else d.r+3
abbrev Ds.f(d:Ds):Nat:=if d.b then d.r+6 else d.r+4
abbrev ZP(m:Nat):Aj:=[(.str "noteboard.values" 187),(.str "noteboard.patterns" 260),(.str "noteboard.acts" 327),(.str "noteboard.fieldtexts" 455),(.str "noteboard.programs" 548),(.str "noteboard.plantexts" 650),(.str "law_noteboard_k15_whole_texts_there_and_back" 835)].getD m .none
abbrev lY(d:Ds):C1:=Fv d.x d.x (my (c8 d.i)) (gB (c8 d.i)) (dh (c8 d.i)) .none .none .none (ZP d.m) af (.ref d.c) .none
abbrev oF(d:Ds):Obj:=oT "function" (.func (lY d))
abbrev oC(d:Ds):Obj:=oT "code" (.fields #[.str d.x d.t,.str d.x (d.t+1),.str "/claim/cut.py" (d.t+2),.int d.l 0,.int d.n 0,.int 0 0,.int 0 0,.int 3 0,.ref d.r,.bool ah,.int 181 0,.ref (d.r+1),.none,if d.b then .ref (d.r+2)else .none,if d.b then .ref (d.r+3)else .none,.ref (if d.b then d.r+4 else d.r+2),.int d.v 0,.int d.l 0,.str "/claim/cut.py" (d.v+1)])
abbrev eN(P:Params)(x:Str)(t:Nat)(v:Aj):DictEntry:=⟨PyData.keyHash P x,.str x t,v⟩
abbrev en(P:Params)(d:Ds):DictEntry:=eN P d.x (d.v+2) (.ref d.f)
def dL:List Ds:=[⟨6,"is_whole",199,7,1,15,ah,203,0⟩,⟨7,"is_letters",206,9,2,22,ai,209,0⟩,⟨8,"is_word",212,13,1,27,ah,216,0⟩,⟨9,"is_number",219,15,1,34,ah,223,0⟩,⟨10,"is_value",226,17,1,41,ah,230,0⟩,⟨11,"is_name",233,19,1,48,ah,237,0⟩,⟨12,"is_row",240,21,1,55,ai,243,0⟩,⟨13,"is_age",246,25,1,60,ah,250,0⟩,⟨14,"is_note",253,27,1,67,ah,257,0⟩,⟨17,"is_headed",264,31,3,74,ah,270,1⟩,⟨18,"is_named",273,33,2,81,ah,278,1⟩,⟨19,"is_term",281,35,1,88,ah,285,1⟩,⟨20,"is_pattern_field",288,39,1,95,ah,292,1⟩,⟨21,"is_template_field",295,43,1,102,ah,299,1⟩,⟨22,"has_field_count",302,45,1,109,ah,306,1⟩,⟨23,"is_pattern",309,47,1,116,ai,312,1⟩,⟨24,"is_template",315,49,1,121,ai,318,1⟩,⟨25,"binds",321,51,1,126,ai,324,1⟩,⟨29,"is_block_number",333,56,1,131,ah,337,2⟩,⟨30,"is_lay",340,58,1,138,ah,344,2⟩,⟨31,"is_take",347,60,1,145,ah,351,2⟩,⟨32,"is_read",354,62,1,152,ah,358,2⟩,⟨33,"is_look",361,64,1,159,ah,365,2⟩,⟨34,"is_same",368,66,1,166,ah,372,2⟩,⟨35,"is_go",375,70,1,173,ah,379,2⟩,⟨36,"is_act",382,72,1,180,ah,386,2⟩,⟨37,"is_wanted",389,76,1,187,ai,392,2⟩,⟨38,"is_acts",395,82,1,192,ai,398,2⟩,⟨39,"is_block",401,84,1,197,ah,405,2⟩,⟨48,"shown_field",481,100,1,238,ah,486,3⟩,⟨49,"shown_age",489,107,1,245,ah,493,3⟩,⟨50,"shown_block",496,109,1,252,ah,500,3⟩,⟨51,"is_figures",503,111,1,259,ai,506,3⟩,⟨52,"number_read",509,113,1,264,ah,514,3⟩,⟨53,"value_read",517,118,1,271,ah,521,3⟩,⟨54,"field_read",524,120,1,278,ah,530,3⟩,⟨55,"age_read",533,129,1,285,ah,538,3⟩,⟨56,"block_read",541,132,1,292,ah,545,3⟩,⟨63,"known_at",564,140,3,301,ah,574,4⟩,⟨64,"fields_of",577,148,1,308,ah,581,4⟩,⟨65,"first_unknown",584,152,2,315,ah,591,4⟩,⟨66,"can_lead",594,157,3,322,ai,597,4⟩,⟨67,"wrong_word",600,159,3,327,ah,610,4⟩,⟨68,"has_right_acts",613,169,2,334,ai,616,4⟩,⟨69,"is_blocks",619,172,1,339,ai,622,4⟩,⟨70,"is_program",625,176,1,344,ai,628,4⟩,⟨71,"is_programs",631,180,1,349,ai,634,4⟩,⟨72,"is_plan_notes",637,184,1,354,ai,640,4⟩,⟨73,"is_plan",643,186,1,359,ah,647,4⟩,⟨78,"aged_words",690,192,1,369,ah,694,5⟩,⟨79,"shown_note",697,194,1,376,ai,700,5⟩,⟨80,"shown_act",703,196,1,381,ai,706,5⟩,⟨81,"shown_program",709,203,1,386,ai,712,5⟩,⟨82,"shown_plan",715,209,1,391,ai,718,5⟩,⟨83,"can_stand",721,214,3,396,ah,727,5⟩,⟨84,"lacks_block",730,224,1,403,ah,734,5⟩,⟨85,"part_read",737,226,2,410,ah,742,5⟩,⟨86,"can_begin",745,230,2,417,ai,748,5⟩,⟨87,"parts_read",751,240,1,422,ah,758,5⟩,⟨88,"tail_read",761,248,2,429,ah,767,5⟩,⟨89,"line_made",770,255,3,436,ah,776,5⟩,⟨90,"line_read",779,265,2,443,ah,789,5⟩,⟨91,"put_line",792,274,4,450,ah,799,5⟩,⟨92,"program_made",802,283,1,457,ai,805,5⟩,⟨93,"refuse_wrong_block",808,285,3,462,ah,816,5⟩,⟨94,"refuse_wrong",819,292,1,469,ah,826,5⟩,⟨95,"read_plan",829,299,1,476,ai,832,5⟩,⟨97,"_law_tape",837,313,1,481,ah,841,6⟩,⟨98,"_law_draw",844,315,2,488,ah,853,6⟩,⟨99,"_law_value",856,330,1,495,ah,860,6⟩,⟨100,"_law_size",863,332,1,502,ah,867,6⟩,⟨101,"_law_age",870,334,1,509,ah,874,6⟩,⟨102,"_law_pattern",877,336,2,516,ah,888,6⟩,⟨103,"_law_template",891,353,2,523,ah,899,6⟩,⟨104,"_law_term",902,362,2,530,ah,907,6⟩,⟨105,"_law_act",910,366,3,537,ah,920,6⟩,⟨106,"_law_program",923,379,1,544,ai,926,6⟩,⟨107,"_law_notes",929,396,2,549,ai,932,6⟩,⟨108,"_law_plan",935,402,1,554,ai,938,6⟩,⟨109,"_law_field_word",941,407,1,559,ah,946,6⟩,⟨110,"_law_act_line",949,412,1,566,ai,952,6⟩,⟨111,"_law_lines",955,422,1,571,ai,958,6⟩,⟨112,"_law_other_in",961,435,2,576,ah,967,6⟩,⟨113,"_law_there_and_back",970,442,1,583,ah,979,6⟩,⟨114,"_law_parts_right",982,455,1,590,ai,985,6⟩,⟨115,"law",988,460,1,595,ah,997,6⟩]
def KK(P:Params):Ag:=let e:=eN P
 (3,oT "dict" (.dict ([e "__name__" 165 (.str "law_noteboard_k15_whole_texts_there_and_back" 835),e "__doc__" 166 .none,e "__package__" 167 .none,e "__loader__" 168 (.builtin "__main__.__loader__#opaque"),e "__spec__" 169 .none,e "__annotations__" 170 (.ref 6),e "__builtins__" 171 (.ref 4),e "__file__" 173 (.str "/claim/cut.py" 172),e "__cached__" 174 .none,e "LONGEST_WORD" 190 (.int 8 189),e "LONGEST_NAME" 192 (.int 4 191),e "LONGEST_ROW" 194 (.int 4 193),e "GREATEST_NUMBER" 196 (.int 99 195),e "GREATEST_AGE" 198 (.int 20 197)]++((dL.drop 0).take 9).map (en P)++[e "MOST_FIELDS" 263 (.int 4 262)]++((dL.drop 9).take 9).map (en P)++[e "MOST_WANTED" 330 (.int 4 329),e "MOST_ACTS" 332 (.int 8 331)]++((dL.drop 18).take 11).map (en P)++[e "BoardError" 427 (.ref 213),e "NoLine" 454 (.ref 233),e "BARE_SIGNS" 466 (.ref 236),e "NAME_SIGNS" 476 (.ref 237),e "AGE_SIGN" 478 (.str "@" 477),e "BLOCK_SIGN" 480 (.str ">" 479)]++((dL.drop 29).take 9).map (en P)++[e "MOST_BLOCKS" 551 (.int 6 550),e "MOST_PROGRAMS" 553 (.int 5 552),e "MOST_NOTES" 555 (.int 12 554),e "GETTING" 559 (.ref 299),e "LEADING" 563 (.ref 300)]++((dL.drop 38).take 11).map (en P)++[e "ACT_HEADS" 658 (.ref 366),e "AGED" 661 (.ref 367),e "LEAST_PARTS" 689 (.ref 368)]++((dL.drop 49).take 37).map (en P)).toArray 117))::(dL.flatMap λd=>[(d.c,oC d),(d.f,oF d)])++[(299,oT "tuple" (.seq #[(.str "take" 556),(.str "read" 557),(.str "look" 558)] 0)),(300,oT "tuple" (.seq #[(.str "look" 560),(.str "same" 561),(.str "go" 562)] 0)),(366,oT "tuple" (.seq #[(.str "lay" 652),(.str "take" 653),(.str "read" 654),(.str "look" 655),(.str "same" 656),(.str "go" 657)] 0)),(367,oT "tuple" (.seq #[(.str "note" 659),(.str "lay" 660)] 0)),(236,oT "dict" (.dict #[(e "any" 457 (.str "?" 458)),(e "word" 459 (.str "$" 460)),(e "number" 461 (.str "#" 462))] 3)),(237,oT "dict" (.dict #[(e "bind" 467 (.str "?" 468)),(e "as" 469 (.str "=" 470)),(e "next" 471 (.str "+" 472))] 3)),(368,oT "dict" (.dict #[(e "note" 662 (.int 1 663)),(e "hand" 664 (.int 0 665)),(e "block" 666 (.int 0 667)),(e "lay" 668 (.int 1 669)),(e "take" 670 (.int 1 671)),(e "read" 672 (.int 1 673)),(e "look" 674 (.int 1 675)),(e "same" 676 (.int 2 677)),(e "go" 678 (.int 0 679))] 9))]
def aS:List Addr:=3::(dL.flatMap λd=>[d.c,d.f])++[299,300,366,367,236,237,368]
abbrev pp:Bs:=PySem.Challenge.pw_noteboard_k15_whole_texts_there_and_back
abbrev qq:Bs:=PySem.W.view pp [115]
def lO:List Str:=(["LONGEST_WORD","LONGEST_NAME","LONGEST_ROW","GREATEST_NUMBER","GREATEST_AGE","is_whole","is_letters","is_word","is_number","is_value","is_name","is_row","is_age","is_note","MOST_FIELDS","is_headed","is_named","is_term","is_pattern_field","is_template_field","has_field_count","is_pattern","is_template","binds","MOST_WANTED","MOST_ACTS","is_block_number","is_lay","is_take","is_read","is_look","is_same","is_go","is_act","is_wanted","is_acts","is_block","BoardError","NoLine","BARE_SIGNS","NAME_SIGNS","AGE_SIGN","BLOCK_SIGN","shown_field","shown_age","shown_block","is_figures","number_read","value_read","field_read","age_read","block_read","MOST_BLOCKS","MOST_PROGRAMS","MOST_NOTES","GETTING","LEADING","known_at","fields_of","first_unknown","can_lead","wrong_word","has_right_acts","is_blocks","is_program","is_programs","is_plan_notes","is_plan","ACT_HEADS","AGED","LEAST_PARTS","aged_words","shown_note","shown_act","shown_program","shown_plan","can_stand","lacks_block","part_read","can_begin","parts_read","tail_read","line_made","line_read","put_line","program_made","refuse_wrong_block","refuse_wrong","read_plan","_law_tape","_law_draw","_law_value","_law_size","_law_age","_law_pattern","_law_template","_law_term","_law_act","_law_program","_law_notes","_law_plan","_law_field_word","_law_act_line","_law_lines","_law_other_in","_law_there_and_back","_law_parts_right"]:List String).map Bt
abbrev xT:Ao->Bool:=λs=>PySem.W.xlAt qq [] s&&PySem.W.recOk (PySem.W.RowW.records PySem.Challenge.rw_noteboard_k15_whole_texts_there_and_back.row.toRowW) s
theorem said_:PySem.Challenge.rw_noteboard_k15_whole_texts_there_and_back.wellSaid=ah:=by kernel_rfl
theorem aK:∀P,aS=(KK P).map (·.1):=λP=>by kernel_rfl
abbrev hK:PySem.W.Hook:=PySem.W.kHook KK aS aK
theorem AS{α β:Type}{o:Option α}{f g:α->Option β}{a b:β}(h:o.bind f=ae a)(h':o.bind g=ae b):o.map (λs=>(f s,g s))=ae (ae a,ae b):=by
 cases o with
 |none=>cases h
 |some s=>exact congrArg ae (Prod.ext h h')
theorem PK(w:B5):(PySem.W.fencedOpening PySem.treeTable pp w 6000).bind (λs₀=>(PySem.W.topFrom PySem.treeTable pp (w.withFollow "special-get-raises" ai) 6000 s₀).map λs=>(PySem.W.openSeen qq lO (importedModules pp.main.body) xT ah s,hK.obs s))=ae (PySem.W.openGood qq lO,hK.val (w.withFollow "special-get-raises" ai)):=by unfold PySem.W.topFrom;rw[Hb,Ha,Hd];kernel_rfl
theorem PJ(w:B5):(PySem.W.fencedOpening PySem.treeTable pp w 6000).bind (λs₀=>(PySem.W.topFrom PySem.treeTable pp (w.withFollow "special-get-raises" ah) 6000 s₀).map λs=>(PySem.W.openSeen qq lO (importedModules pp.main.body) xT ah s,hK.obs s))=ae (PySem.W.openGood qq lO,hK.val (w.withFollow "special-get-raises" ah)):=by unfold PySem.W.topFrom;rw[Hb,Ha,Hd];kernel_rfl
theorem left_:PySem.W.LeftO pp qq lO xT hK.obs hK.val 6000:=PySem.W.LeftO.of_split "special-get-raises" λw=>AS (PK w) (PJ w)
def V3(s:Stmt):Pos:=match s with
 |.FunctionDef _ _ _ _ _ _ _ _ _ p=>p
 |_=>⟨0,0,0,0⟩
def dW:DefRec:=⟨"law",my rf,gB rf,dh rf,V3 rf⟩
theorem MA(P):(dL.map λd=>(PySem.W.nsIn (KK P) Dz d.x,(KK P).lookup d.f,PySem.W.codeIn (KK P) (.ref d.c) d.x))=dL.map λd=>(ae (ae (.ref d.f)),ae (oF d),ah):=by kernel_rfl
theorem KH{α β:Type}{f g:α->β}{l:List α}(h:l.map f=l.map g){j:Nat}{a:α}(e:l[j]?=ae a):f a=g a:=by
 have:=congrArg (λl=>l[j]?) h;simp only[Bh,e,Option.map_some]at this;exact B3 this
end Nb
namespace L2
open PySem PySem.Spec PyProof.Rows
abbrev bg:=Sum Int Str
def nF:bg->Aj->Bool
 |.inl k,v=>Value.isInt k v
 |.inr x,v=>Value.isStrOf x v
def vB(w:B5):bg->Int
 |.inl k=>hashInt k
 |.inr x=>hashStr w x
theorem jL:∀{k:bg}{v:Aj},nF k v=ah->(∃i t,k=Sum.inl i/\v=Value.int i t)\/(∃x t,k=Fs x/\v=D7 x t)
 |.inl i,v,h=>by
  obtain⟨t,e⟩:=Value.isInt_shape (k:=i) (v:=v) h;exact .inl ⟨i,t,rfl,e⟩
 |.inr x,v,h=>by
  obtain⟨t,e⟩:=Value.isStrOf_shape (x:=x) (v:=v) h;exact .inr ⟨x,t,rfl,e⟩
theorem VG(i)(t):nF (.inl i) (.int i t)=ah:=by simp[nF,Value.isInt]
theorem yO(x)(t):nF (.inr x) (.str x t)=ah:=by simp[nF,Value.isStrOf]
theorem PF(a b):decide ((Sum.inl a:bg)=Sum.inl b)=(a==b):=by
 by_cases e:a=b
 ·subst e;simp
 ·have h:¬(Sum.inl a:bg)=Sum.inl b:=λq=>e (Sum.inl.inj q);rw[decide_eq_false h];exact(beq_eq_false_iff_ne.mpr e).symm
theorem Q1(a b):decide ((Fs a:bg)=Fs b)=decide (a=b):=by
 by_cases e:a=b
 ·subst e;simp
 ·have h:¬(Fs a:bg)=Fs b:=λq=>e (Sum.inr.inj q);rw[decide_eq_false h,decide_eq_false e]
theorem OR(a)(b):decide ((Sum.inl a:bg)=Fs b)=ai:=decide_eq_false (λq=>nomatch q)
theorem Tb(a)(b):decide ((Fs a:bg)=Sum.inl b)=ai:=decide_eq_false (λq=>nomatch q)
def fP(prog:Bs)(w:B5):PySem.KeyKind prog w bg where
 is:=nF
 hash:=vB w
 inj:=λv a b ha hb=>by
  rcases jL ha with⟨i,t,rfl,rfl⟩|⟨x,t,rfl,rfl⟩
  ·rcases jL hb with⟨j,u,rfl,e⟩|⟨y,u,rfl,e⟩
   ·injection e with e1 _;rw[e1]
   ·exact nomatch e
  ·rcases jL hb with⟨j,u,rfl,e⟩|⟨y,u,rfl,e⟩
   ·exact nomatch e
   ·injection e with e1 _;rw[e1]
 byValue:=λk v h=>by
  rcases jL h with⟨i,t,rfl,rfl⟩|⟨x,t,rfl,rfl⟩<;>rfl
 pyHash:=λhv h=>by
  rcases jL hv with⟨i,t,rfl,rfl⟩|⟨x,t,rfl,rfl⟩
  ·exact wpAny_pyHash_int h
  ·exact wpAny_pyHash_str h
 eqBool:=λhu hv h=>by
  rcases jL hu with⟨i,t,rfl,rfl⟩|⟨x,t,rfl,rfl⟩
  ·rcases jL hv with⟨j,u,rfl,rfl⟩|⟨y,u,rfl,rfl⟩
   ·rw[PF]at h;exact wpAny_eqBool_int h
   ·rw[OR]at h;exact SeqAt.EqAt.int_str i t y u _ _ _ _ h
  ·rcases jL hv with⟨j,u,rfl,rfl⟩|⟨y,u,rfl,rfl⟩
   ·rw[Tb]at h;exact SeqAt.EqAt.str_int x t j u _ _ _ _ h
   ·rw[Q1]at h;exact wpAny_eqBool_str h
 «strs»:=λk x t v h=>by
  rcases jL h with⟨i,u,rfl,e⟩|⟨y,u,rfl,e⟩
  ·exact nomatch e
  ·injection e with e1 _;subst e1;cases v<;>rfl
theorem Wj(prog)(w)(i)(t):(fP prog w).is (.inl i) (.int i t)=ah:=VG i t
theorem Tw(prog)(w)(x)(t):(fP prog w).is (.inr x) (.str x t)=ah:=yO x t
inductive V where
 |non|bl (b:Bool)|int (i:Int)|str (x:Str)|byt (b:Array UInt8)|flt (b:UInt64)|ref (a:Addr)|ty (n:String)
 deriving DecidableEq
def RelV:V->Aj->Prop
 |.non,u=>u=B1
 |.bl b,u=>u=Value.bool b
 |.int i,u=>∃t,u=Value.int i t
 |.str x,u=>∃t,u=D7 x t
 |.byt b,u=>∃t,u=Value.bytes b t
 |.flt b,u=>∃t,u=Value.float b t
 |.ref a,u=>u=B8 a
 |.ty n,u=>u=D8 n
abbrev Vals:List V->List Aj->Prop:=Paired RelV
theorem Vals.length(r:Vals xs us):xs.length=us.length:=Paired.length r
theorem Vals.get:∀{xs:List V}{us:List Aj}{i:Nat}{x:V},Vals xs us->xs[i]?=ae x->∃u,us[i]?=ae u/\RelV x u
 |_,_,_,_,.nil,e=>by simp at e
 |_,_,0,_,.cons r _,e=>by simp at e;subst e;exact⟨_,rfl,r⟩
 |_,_,i+1,x,.cons _ t,e=>by
  obtain⟨u,h1,h2⟩:=Vals.get (i:=i) (x:=x) t (by simpa using e);exact⟨u,by simpa using h1,h2⟩
theorem Vals.set(r:RelV x u):∀{xs:List V}{us:List Aj}(i:Nat),Vals xs us->Vals (xs.set i x) (us.set i u)
 |_,_,_,.nil=>.nil
 |_,_,0,.cons _ t=>.cons r t
 |_,_,i+1,.cons q t=>.cons q (Vals.set r i t)
theorem Vals.append:∀{xs ys:List V}{us ws:List Aj},Vals xs us->Vals ys ws->Vals (xs++ys) (us++ws)
 |_,_,_,_,.nil,s=>s
 |_,_,_,_,.cons r t,s=>.cons r (Vals.append t s)
theorem Vals.take:∀{xs:List V}{us:List Aj}(n:Nat),Vals xs us->Vals (xs.take n) (us.take n)
 |_,_,0,_=>.nil
 |_,_,_+1,.nil=>.nil
 |_,_,n+1,.cons r t=>.cons r (Vals.take n t)
theorem Vals.drop:∀{xs:List V}{us:List Aj}(n:Nat),Vals xs us->Vals (xs.drop n) (us.drop n)
 |_,_,0,r=>r
 |_,_,_+1,.nil=>.nil
 |_,_,n+1,.cons _ t=>Vals.drop n t
def RelO:Option V->Option Aj->Prop
 |some v,ae u=>RelV v u
 |none,af=>True
 |_,_=>False
def KV{κ:Type}:List (κ×V)->List (κ×Aj)->Prop:=Paired λ(p:κ×V)(q:κ×Aj)=>p.1=q.1/\RelV p.2 q.2
def kV:bg->V
 |.inl i=>.int i
 |.inr x=>.str x
inductive HO where
 |lst (xs:List V)
 |tup (xs:List V)
 |dK (kvs:List (bg×V))|dT (kvs:List (List bg×V))
 |set (S:Int->Bool) (n:Nat)
 |ins (C dx:Addr) (fs:List (Str×V))
 |own (x:Addr)
 |xd (fs:List (Str×V))
 |met (f x:Addr)
 |rng (lo hi:Int)
 |frz (o:Obj) (u:HO)
 |tbl (ps:Array Aj)
 |ext (φ:Heap->Prop)
abbrev Hp:=Addr->Option HO
def upd(H:Hp)(a:Addr)(o:HO):Hp:=λb=>if b=a then ae o else H b
theorem bL:upd H a o a=ae o:=by unfold upd;rw[if_pos rfl]
theorem bc(h:b≠a):upd H a o b=H b:=by unfold upd;rw[if_neg h]
theorem Ow{H:Hp}(h:H a=ae o)(h':H b=ae u)(d:o≠u):a≠b:=by
 intro e;subst e;rw[h]at h';exact d (B3 h')
theorem b5{H:Hp}(h:H a=ae o)(h':H b=af):a≠b:=by
 intro e;subst e;rw[h]at h';cases h'
def IsTupP(h:Heap)(a:Addr)(items:Array Aj):Prop:=∃o,h.get? a=ae o/\o.cls=.type "tuple"/\(∃n,o.data=.seq items n)/\o.dict=af
theorem IsTupP.tup(x:IsTupP h a items):IsTup h a items:=let⟨o,e,c,d,_⟩:=x;⟨o,e,c,d⟩
theorem IsTupP.lt(x:IsTupP h a items):a < h.objs.size:=let⟨_,e,_⟩:=x;A0 e
theorem IsTupP.new(h:Heap)(items):IsTupP (h.push {cls:=.type "tuple",data:=.seq items}) h.objs.size items:=⟨_,Ba _ rfl,rfl,⟨_,rfl⟩,rfl⟩
section
variable(P:Bs)(w:B5)
def ObjOk(H:Hp)(h:Heap)(a:Addr):HO->Prop
 |.lst xs=>xs.length<=A6/\∃(its:List Aj)(n:Nat),Vals xs its/\h.get? a=ae {cls:=.type "list",data:=.seq its.toArray n}
 |.tup xs=>xs.length<=A6/\∃its:List Aj,Vals xs its/\IsTupP h a its.toArray
 |.dK kvs=>kvs.length<=A6/\(a==E4)=ai/\∃vs,KV kvs vs/\h.DictOf (fP P w) a vs
 |.dT kvs=>kvs.length<=A6/\(a==E4)=ai/\∃xs:List (List bg×Addr×Aj),
   Paired (λ(p:List bg×V)(q:List bg×Addr×Aj)=>p.1=q.1/\H q.2.1=ae (.tup (p.1.map kV))/\RelV p.2 q.2.2) kvs xs /\
   ∃o es ep,h.get? a=ae o/\o.ExactDict/\o.data=.dict es ep/\es.toList=xs.map (entryOfKey (tupleKind (fP P w)))/\(xs.map (·.1)).Nodup
 |.set S n=>h.SetOf (intKind P w) a S n
 |.ins C dx fs=>H dx=ae (.own a)/\fs.length<=1000/\dx≠a/\h.get? a=ae (PySem.W.instObj C dx) /\
   ∃mA,h.Ns1 dx mA/\(∀f,RelO (fs.lookup f) (mA f))/\PySem.Within mA (fs.map (·.1))
 |.own _=>∃o,h.get? a=ae o
 |.xd fs=>∃mA,h.Ns1 a mA/\∀f,RelO (fs.lookup f) (mA f)
 |.rng lo hi=>∃t u v,h.get? a=ae {cls:=.type "range",data:=.fields #[.int lo t,.int hi u,.int 1 v]}
 |.frz o u=>h.get? a=ae o/\ObjOk H h a u
 |.tbl ps=>h.get? a=ae {cls:=.none,data:=.fields ps}
 |.met f x=>h.get? a=ae (PySem.W.methodObj (.ref f) (.ref x))
 |.ext φ=>φ h/\(∃o,h.get? a=ae o)/\∀h1 h2:Heap,φ h1->(∀o,h1.get? a=ae o->h2.get? a=ae o)->φ h2
def HOk(H:Hp)(h:Heap):Prop:=∀a o,H a=ae o->ObjOk P w H h a o
end
section
variable{P:Bs}{w:B5}{H H':Hp}{h h':Heap}{a:Addr}{o:HO}
theorem ObjOk.lt(x:ObjOk P w H h a o):a < h.objs.size:=by
 cases o with
 |lst xs=>obtain⟨_,_,_,_,e⟩:=x;exact A0 e
 |tup xs=>obtain⟨_,_,_,p⟩:=x;exact p.lt
 |dK kvs=>obtain⟨_,_,_,_,o,_,_,e,_⟩:=x;exact A0 e
 |dT kvs=>obtain⟨_,_,_,_,o,_,_,e,_⟩:=x;exact A0 e
 |set S n=>obtain⟨o,_,_,_,e,_⟩:=x;exact A0 e
 |ins C dx fs=>obtain⟨_,_,_,e,_⟩:=x;exact A0 e
 |own y=>obtain⟨_,e⟩:=x;exact A0 e
 |xd fs=>obtain⟨_,⟨_,_,_,e,_⟩,_⟩:=x;exact A0 e
 |rng lo hi=>obtain⟨_,_,_,e⟩:=x;exact A0 e
 |frz ob u=>obtain⟨e,_⟩:=x;exact A0 e
 |tbl ps=>exact A0 (show h.get? a=ae _ from x)
 |met f y=>exact A0 (show h.get? a=ae _ from x)
 |ext φ=>obtain⟨_,⟨_,e⟩,_⟩:=x;exact A0 e
theorem Paired.mapP:∀{l₁:List α}{l₂:List β},Paired F l₁ l₂->(∀a b,F a b->G a b)->Paired G l₁ l₂
 |_,_,.nil,_=>.nil
 |_,_,.cons r t,f=>.cons (f _ _ r) (Paired.mapP t f)
theorem ObjOk.stay(x:ObjOk P w H h a o)(k:∀b u,(b=a\/H b=ae (.own a))->h.get? b=ae u->h'.get? b=ae u)
  (ho:∀b,H b=ae (.own a)->H' b=ae (.own a)) (ht:∀b xs,H b=ae (.tup xs)->H' b=ae (.tup xs)):ObjOk P w H' h' a o:=by
 induction o with
 |lst xs=>obtain⟨z,its,n,r,e⟩:=x;exact⟨z,its,n,r,k _ _ (.inl rfl) e⟩
 |tup xs=>obtain⟨z,its,r,ob,e,c⟩:=x;exact⟨z,its,r,ob,k _ _ (.inl rfl) e,c⟩
 |dK kvs=>obtain⟨z,y,vs,r,ob,es,ep,e,c⟩:=x;exact⟨z,y,vs,r,ob,es,ep,k _ _ (.inl rfl) e,c⟩
 |dT kvs=>
  obtain⟨z,y,xs,r,ob,es,ep,e,c⟩:=x;exact⟨z,y,xs,Paired.mapP r λp q z=>⟨z.1,ht _ _ z.2.1,z.2.2⟩,ob,es,ep,k _ _ (.inl rfl) e,c⟩
 |set S n=>obtain⟨ob,es,ep,t,e,c⟩:=x;exact⟨ob,es,ep,t,k _ _ (.inl rfl) e,c⟩
 |ins C dx fs=>
  obtain⟨d,z,ne,e,mA,⟨od,es,ep,e2,c⟩,r⟩:=x;exact⟨ho _ d,z,ne,k _ _ (.inl rfl) e,mA,⟨od,es,ep,k _ _ (.inr d) e2,c⟩,r⟩
 |own y=>obtain⟨ob,e⟩:=x;exact⟨ob,k _ _ (.inl rfl) e⟩
 |xd fs=>obtain⟨mA,⟨od,es,ep,e,c⟩,r⟩:=x;exact⟨mA,⟨od,es,ep,k _ _ (.inl rfl) e,c⟩,r⟩
 |rng lo hi=>obtain⟨t,u,v,e⟩:=x;exact⟨t,u,v,k _ _ (.inl rfl) e⟩
 |frz ob u ih=>obtain⟨e,q⟩:=x;exact⟨k _ _ (.inl rfl) e,ih q⟩
 |tbl ps=>
  have e:h.get? a=ae {cls:=.none,data:=.fields ps}:=x;show h'.get? a=ae {cls:=.none,data:=.fields ps};exact k a _ (.inl rfl) e
 |met f y=>
  have e:h.get? a=ae (PySem.W.methodObj (.ref f) (.ref y)):=x;show h'.get? a=ae (PySem.W.methodObj (.ref f) (.ref y));exact k a _ (.inl rfl) e
 |ext φ=>obtain⟨p,⟨o,e⟩,st⟩:=x;exact⟨st _ _ p λo q=>k _ _ (.inl rfl) q,⟨o,k _ _ (.inl rfl) e⟩,st⟩
theorem HOk.lt(x:HOk P w H h)(e:H a=ae o):a < h.objs.size:=(x a o e).lt
theorem HOk.fresh(x:HOk P w H h)(e:h.objs.size<=a):H a=af:=by
 cases q:H a with
 |none=>rfl
 |some u=>exact absurd (By (x.lt q) e) (Fm _)
theorem HOk.kept(x:HOk P w H h)(k:∀b u,h.get? b=ae u->h'.get? b=ae u):HOk P w H h':=λa o e=>
 (x a o e).stay (λb u _ q=>k b u q) (λ_ q=>q) λ_ _ q=>q
theorem HOk.laid(x:HOk P w H h)(k:∀b u,h.get? b=ae u->h'.get? b=ae u)(hp:h.objs.size<=a)(new:ObjOk P w (upd H a o) h' a o):HOk P w (upd H a o) h':=λb u e=>by
 have hn:=x.fresh hp;by_cases hb:b=a
 ·subst hb;rw[bL]at e;cases e;exact new
 ·rw[bc hb]at e;exact(x b u e).stay (λc v _ q=>k c v q) (λc q=>by rw[bc (b5 q hn)];exact q) λc xs q=>by rw[bc (b5 q hn)];exact q
end
def Rd(H:Hp)(a:Addr)(u:HO):Prop:=H a=ae u\/∃o,H a=ae (.frz o u)
theorem Rd.ok(r:Rd H a u)(x:HOk P w H h):ObjOk P w H h a u:=by
 rcases r with r|⟨o,r⟩
 ·exact x a u r
 ·obtain⟨_,q⟩:=x a _ r;exact q
def pN:Option HO->Prop
 |some (.lst _)=>True
 |some (.dK _)=>True
 |some (.dT _)=>True
 |some (.set _ _)=>True
 |some (.ins _ _ _)=>True
 |some (.ext _)=>True
 |_=>False
section
variable{P:Bs}{w:B5}{H:Hp}{h h':Heap}{x e:Addr}{o':HO}
theorem HOk.write(ok:HOk P w H h)(mu:pN (H x))(he:e=x\/H e=ae (.own x))(k:∀b u,b≠e->h.get? b=ae u->h'.get? b=ae u)(heo:∃u,h'.get? e=ae u)
  (new:ObjOk P w (upd H x o') h' x o'):HOk P w (upd H x o') h':=λb u q=>by
 have nown:∀c y,H c=ae (.own y)->c≠x:=λc y r z=>by subst z;rw[r]at mu;exact mu
 have ntup:∀c xs,H c=ae (.tup xs)->c≠x:=λc xs r z=>by subst z;rw[r]at mu;exact mu
 by_cases hb:b=x
 ·subst hb;rw[bL]at q;cases q;exact new
 ·rw[bc hb]at q;by_cases hbe:b=e
  ·have q':H b=ae (.own x):=by
    rcases he with z|z
    ·exact absurd (hbe.trans z) hb
    ·rw[hbe];exact z
   rw[q]at q';cases q';obtain⟨v,hv⟩:=heo;exact⟨v,by rw[hbe];exact hv⟩
  ·refine(ok b u q).stay (λc v hc r=>k c v ?_ r) (λc r=>by rw[bc (nown c b r)];exact r) λc xs r=>by rw[bc (ntup c xs r)];exact r
   rcases hc with rfl|hc
   ·exact hbe
   ·rintro rfl
    rcases he with z|z
    ·exact nown c b hc z
    ·rw[hc]at z;cases z;exact hb rfl
end
structure Un(fs ex:List Addr)(H H':Hp)(h h':Heap):Prop where
 keep:∀b o,h.get? b=ae o->H b=af->b∉fs->b∉ex->h'.get? b=ae o
 slot:∀b o,h.get? b=ae o->H b=af->b∈fs->b∉ex->∃sl,h'.get? b=ae {o with slots:=sl}
 free:∀b o,h.get? b=ae o->H b=af->b∉ex->H' b=af
 there:∀b o,h.get? b=ae o->b∉ex->∃o',h'.get? b=ae o'
 tups:∀b xs,H b=ae (.tup xs)->H' b=ae (.tup xs)
 frzs:∀b o u,H b=ae (.frz o u)->H' b=ae (.frz o u)
 tbls:∀b ps,H b=ae (.tbl ps)->∃more,H' b=ae (.tbl (ps++more))
section
variable{fs fs' ex ex':List Addr}{H H1 H2:Hp}{h h1 h2 h':Heap}{a x e:Addr}{o:HO}
theorem Un.any(u:Un fs ex H H1 h h1)(q:h.get? b=ae ob)(n:H b=af)(hx:b∉ex):∃sl,h1.get? b=ae {ob with slots:=sl}:=by
 by_cases hb:b∈fs
 ·exact u.slot b ob q n hb hx
 ·exact⟨ob.slots,u.keep b ob q n hb hx⟩
theorem Un.kept(k:∀b u,h.get? b=ae u->h'.get? b=ae u):Un fs ex H H h h':=
 ⟨λb ob q _ _ _=>k b ob q,λb ob q _ _ _=>⟨ob.slots,k b ob q⟩,λ_ _ _ n _=>n,λb ob q _=>⟨ob,k b ob q⟩,λ_ _ q=>q,λ_ _ _ q=>q,λ_ ps q=>⟨#[],by rw[q];simp⟩⟩
theorem Un.refl:Un fs ex H H h h:=Un.kept λ_ _ q=>q
theorem Un.laid(k:∀b u,h.get? b=ae u->h'.get? b=ae u)(hp:h.objs.size<=a)(hn:H a=af):Un fs ex H (upd H a o) h h' where
 keep:=λb u q _ _ _=>k b u q
 slot:=λb u q _ _ _=>⟨u.slots,k b u q⟩
 free:=λb u q n _=>by rw[bc (Bq (By (A0 q) hp))];exact n
 there:=λb u q _=>⟨u,k b u q⟩
 tups:=λb xs q=>by rw[bc (b5 q hn)];exact q
 frzs:=λb u xs q=>by rw[bc (b5 q hn)];exact q
 tbls:=λb ps q=>⟨#[],by rw[bc (b5 q hn),q];simp⟩
theorem Un.write(mu:pN (H x))(he:e=x\/H e=ae (.own x))(k:∀b u,b≠e->h.get? b=ae u->h'.get? b=ae u)(heo:∃u,h'.get? e=ae u):Un fs ex H (upd H x o) h h':=by
 have hx:∀b,H b=af->b≠x:=λb n z=>by subst z;rw[n]at mu;exact mu
 have hb:∀b,H b=af->b≠e:=λb n z=>by
  subst z;rcases he with r|r
  ·exact hx b n r
  ·rw[n]at r;cases r
 have hm:∀b u,H b=ae u->¬pN (ae u)->b≠x:=λb u q nm z=>by subst z;rw[q]at mu;exact nm mu
 refine⟨λb u q n _ _=>k b u (hb b n) q,λb u q n _ _=>⟨u.slots,k b u (hb b n) q⟩,λb u q n _=>by rw[bc (hx b n)];exact n,λb u q _=>?_,
  λb xs q=>by rw[bc (hm b _ q λz=>z)];exact q,λb u xs q=>by rw[bc (hm b _ q λz=>z)];exact q,λb ps q=>⟨#[],by rw[bc (hm b _ q λz=>z),q];simp⟩⟩
 by_cases hbe:b=e
 ·subst hbe;exact heo
 ·exact⟨u,k b u hbe q⟩
end
def tq(h:Heap)(H:Hp):List Addr:=(Ce h.objs.size).filter λa=>(H a).isSome
def fH(h:Heap)(H:Hp):Heap:=PySem.W.hideAll h (tq h H)
theorem TB(h:Heap)(H):(fH h H).objs.size=h.objs.size:=PySem.W.hideAll_size _ _
theorem Tf(e:h.get? b=ae o)(n:H b=af):(fH h H).get? b=ae o:=
 PySem.W.hideAll_get _ e λhm=>by
  have q:(H b).isSome=ah:=(List.mem_filter.mp hm).2;rw[n]at q;simp at q
theorem Vr(e:(fH h H).get? b=ae o):h.get? b=ae o/\H b=af:=by
 have e':h.get? b=ae o:=PySem.W.of_hideAll (tq h H) e;refine⟨e',?_⟩;cases q:H b with
 |none=>rfl
 |some x=>
  have hm:b∈tq h H:=List.mem_filter.mpr ⟨Dh.mpr (A0 e'),by simp[q]⟩;have z:(fH h H).get? b=af:=PySem.W.hideAll_none (tq h H) hm;rw[z]at e;cases e
def Qq(g h:Heap)(L:Addr):List (Addr×Obj):=(Ce h.objs.size).filterMap λa=>if a=L\/(g.get? a).isSome=ah then af else(h.get? a).map λo=>(a,o)
def rest(g h:Heap)(L d:Addr):List (Addr×Obj):=(Qq g h L).filter λp=>decide (p.1≠d)
structure Mod(K:Ag)(mg:Str->Option Aj)(base:Heap):Prop where
 kin:K.In base
 glob:base.Ns Dz mg
 blt:∃mb,base.Ns builtinsNs mb/\∀x:Str,x≠"__name__"->mb x=Cf x
 nolimit:base.NoLimit
structure Cx where
 prog:Bs
 w:B5
 K:Ag
 mg:Str->Option Aj
 base:Heap
 A:Cj
 N:List Str
 s₀:Ao
 H₀:Hp
 env:Env
 outer:List Env
 stack:List Env
 ex:List Addr
 fn:Str->Bool
 calm:Bool
 pn:List (Addr×Obj)
 xe:Aj->Ao->Prop
def iP(l:List Env):List Addr:=l.filterMap (·.frame)
abbrev Cx.fs(X:Cx):List Addr:=iP X.outer
def gT(sc:Fl)(x:Str):Prop:=sc.names.lookup x=ae .local\/sc.names.lookup x=ae .cell\/sc.names.lookup x=ae .free
def jz(sc:Fl)(x:Str):Prop:=sc.names.lookup x=ae .local\/sc.names.lookup x=ae .cell
def uH(env:Env)(h:Heap)(m:Str->Option Aj)(x:Str)(u:Aj):Prop:=
 (env.kindOf x=ae .local/\m x=ae u)\/((env.kindOf x=ae .cell\/env.kindOf x=ae .free)/\∃c,env.cells.lookup x=ae c/\h.IsCell c (ae u))
structure Cx.Ok(X:Cx):Prop where
 mod:Mod X.K X.mg X.base
 kind:X.env.scope.kind=.function
 glob:X.env.globals=Dz
 blt:X.env.builtins=builtinsNs
 above:X.s₀.heap.objs.size<=X.env.locals
 inj:∀x y c,X.env.cells.lookup x=ae c->X.env.cells.lookup y=ae c->x=y
 has:∀x,(X.env.kindOf x=ae .cell\/X.env.kindOf x=ae .free)->∃c,X.env.cells.lookup x=ae c
 cab:∀x c,X.fn x=ah->X.env.cells.lookup x=ae c->X.s₀.heap.objs.size<=c
 hd:X.calm=ah->X.A.handled=af
 frames:X.A.frames=ae X.stack
 stk:X.stack=X.outer\/(X.stack=X.env::X.outer/\X.env.frame=ae X.env.locals)
 exf:∀b∈X.ex,b≠X.env.locals/\∀x c,X.env.cells.lookup x=ae c->c≠b
 bs:∀b o,X.base.get? b=ae o->X.s₀.heap.get? b=ae o/\X.H₀ b=af
 bsz:X.base.objs.size<=X.s₀.heap.objs.size
 noex:∀b o,X.base.get? b=ae o->b∉X.ex
 exfs:∀b∈X.ex,b∉X.fs
 funs:X.s₀.heap.FunFrames X.base X.outer
 frf:∀b∈X.fs,X.H₀ b=af
structure Inv(X:Cx)(pins:List (Addr×Obj))(σ:List (Option V))(H:Hp)(s:Ao):Prop where
 ok:X.Ok
 os:s.os=X.s₀.os
 bare:AllBare s.gens
 base:Un X.fs X.ex X.H₀ H X.s₀.heap s.heap
 loc:∃m,s.heap.Ns X.env.locals m/\∀(i:Nat)(x:Str)(v:V),X.N[i]?=ae x->σ[i]?=ae (ae v)->gT X.env.scope x->∃u,RelV v u/\uH X.env s.heap m x u
 cell:∀x c,X.env.cells.lookup x=ae c->∃v,s.heap.IsCell c v
 free:H X.env.locals=af
 freeC:∀x c,X.env.cells.lookup x=ae c->H c=af
 pin:∀p∈X.pn++pins,s.heap.get? p.1=ae p.2/\H p.1=af/\p.1≠X.env.locals/\p.1∉X.fs/\∀v,p.2.data≠.cell v
 hok:HOk X.prog X.w H s.heap
 len:σ.length=X.N.length
section
variable{X:Cx}{pins:List (Addr×Obj)}{σ:List (Option V)}{H H':Hp}{s:Ao}{h':Heap}
theorem Cx.Ok.nofr(ok:X.Ok)(e:X.base.get? b=ae o):b∉X.fs:=λhb=>by
 have:=(ok.funs.mem hb).1;rw[e]at this;cases this
theorem Inv.bs(I:Inv X pins σ H s):∀b o,X.base.get? b=ae o->s.heap.get? b=ae o/\H b=af:=λb o e=>
 ⟨I.base.keep b o (I.ok.bs b o e).1 (I.ok.bs b o e).2 (I.ok.nofr e) (I.ok.noex b o e),I.base.free b o (I.ok.bs b o e).1 (I.ok.bs b o e).2 (I.ok.noex b o e)⟩
theorem Inv.bk(I:Inv X pins σ H s):∀b o,X.base.get? b=ae o->s.heap.get? b=ae o:=λb o e=>(I.bs b o e).1
theorem Inv.mod(I:Inv X pins σ H s):Mod X.K X.mg X.base:=I.ok.mod
theorem Inv.kIn(I:Inv X pins σ H s):X.K.In s.heap:=I.ok.mod.kin.keeps I.bk
theorem Inv.lt(I:Inv X pins σ H s):X.env.locals < s.heap.objs.size:=let⟨_,hn,_⟩:=I.loc;hn.lt
theorem Inv.sz(I:Inv X pins σ H s):X.s₀.heap.objs.size<=s.heap.objs.size:=A4 I.ok.above (Gn I.lt)
theorem Inv.nofs(I:Inv X pins σ H s){a:Addr}(h:s.heap.objs.size<=a):a∉X.fs:=λhb=>by
 obtain⟨_,o,ho,_⟩:=I.ok.funs.mem hb;exact absurd (By (A0 ho) (A4 I.sz h)) (Fm _)
theorem Inv.cne(I:Inv X pins σ H s):∀x c,X.env.cells.lookup x=ae c->c≠X.env.locals:=λx c e z=>by
 obtain⟨v,o,ho,hd⟩:=I.cell x c e;obtain⟨m,⟨o',es,ep,ho',hd',_⟩,_⟩:=I.loc;rw[z,ho']at ho;cases ho;rw[hd']at hd;cases hd
theorem Inv.funs(I:Inv X pins σ H s):s.heap.FunFrames X.base X.outer:=by
 have all:∀(l:List Env),(∀b∈iP l,b∈X.fs)->X.s₀.heap.FunFrames X.base l->s.heap.FunFrames X.base l:=by
  intro l
  induction l with
  |nil=>intro _ _;trivial
  |cons env r ih=>
   intro hs hl;obtain⟨hk,⟨L,o,hf,hn,ho,hd⟩,hr⟩:=hl;have hL:L∈X.fs:=hs L (by unfold iP;rw[List.filterMap_cons,hf];exact Ae);obtain⟨sl,e⟩:=I.base.slot L o ho (I.ok.frf L hL) hL λz=>I.ok.exfs L z hL;exact⟨hk,⟨L,_,hf,hn,e,hd⟩,ih (λb hb=>hs b (by unfold iP;rw[List.filterMap_cons,hf];exact Af _ hb)) hr⟩
 exact all X.outer (λ_ hb=>hb) I.ok.funs
theorem Inv.stack(I:Inv X pins σ H s):s.heap.FunFrames X.base X.stack:=by
 rcases I.ok.stk with e|⟨e,hf⟩
 ·rw[e];exact I.funs
 ·rw[e];obtain⟨m,hn,_⟩:=I.loc;refine .cons (by rw[I.ok.kind];decide) hf hn ?_ I.funs;exact Heap.get?_none_of_le (A4 I.ok.bsz I.ok.above)
theorem Inv.stkSub(I:Inv X pins σ H s):∀b∈iP X.stack,b∈X.env.locals::X.fs:=λb hb=>by
 rcases I.ok.stk with e|⟨e,hf⟩
 ·rw[e]at hb;exact Af _ hb
 ·rw[e]at hb;unfold iP at hb;rw[List.filterMap_cons,hf]at hb;exact hb
theorem Inv.stkFree(I:Inv X pins σ H s):∀b∈iP X.stack,H b=af:=λb hb=>by
 rcases Aq.mp (I.stkSub b hb)with e|hb
 ·rw[e];exact I.free
 ·obtain⟨_,o,ho,_⟩:=I.ok.funs.mem hb;exact I.base.free b o ho (I.ok.frf b hb) λz=>I.ok.exfs b z hb
theorem Inv.step{ch:List Addr}(I:Inv X pins σ H s)
  (hch:∀b∈ch,(b∈X.ex\/X.s₀.heap.objs.size<=b)/\b≠X.env.locals/\(∀x c,X.env.cells.lookup x=ae c->c≠b)/\∀p∈X.pn++pins,p.1≠b)
  (keep:∀b o,b≠X.env.locals->b∉X.fs->b∉ch->s.heap.get? b=ae o->H b=af->h'.get? b=ae o)
  (slot:∀b o,b≠X.env.locals->b∈X.fs->b∉ch->s.heap.get? b=ae o->H b=af->∃sl,h'.get? b=ae {o with slots:=sl}) (free:∀b o,b∉ch->s.heap.get? b=ae o->H b=af->H' b=af)
  (there:∀b o,b∉ch->s.heap.get? b=ae o->∃o',h'.get? b=ae o')
  (tups:∀b xs,H b=ae (.tup xs)->H' b=ae (.tup xs)) (frzs:∀b o u,H b=ae (.frz o u)->H' b=ae (.frz o u)) (tbls:∀b ps,H b=ae (.tbl ps)->∃more,H' b=ae (.tbl (ps++more)))
  (ns:∀m,s.heap.Ns X.env.locals m->h'.Ns X.env.locals m) (hok:HOk X.prog X.w H' h') (hg:AllBare g'):
  Inv X pins σ H' {s with heap:=h',gens:=g',drawn:=d',toks:=t'}:=by
 have neL:∀b o,X.s₀.heap.get? b=ae o->b≠X.env.locals:=λb o e=>Bq (By (A0 e) I.ok.above);have neC:∀b o,X.s₀.heap.get? b=ae o->b∉X.ex->b∉ch:=λb o e hx hb=>by
  rcases(hch b hb).1 with z|z
  ·exact hx z
  ·exact absurd (By (A0 e) z) (Fm _)
 have cellK:∀x c,X.env.cells.lookup x=ae c->∀v,s.heap.IsCell c v->h'.IsCell c v:=λx c e v ⟨o,ho,hd⟩=>by
  have nch:c∉ch:=λz=>(hch c z).2.2.1 x c e rfl;by_cases hc:c∈X.fs
  ·obtain⟨sl,q⟩:=slot c o (I.cne x c e) hc nch ho (I.freeC x c e);exact⟨_,q,hd⟩
  ·exact⟨o,keep c o (I.cne x c e) hc nch ho (I.freeC x c e),hd⟩
 refine⟨I.ok,I.os,hg,⟨λb o e n hb hx=>?_,λb o e n hb hx=>?_,λb o e n hx=>?_,λb o e hx=>?_,λb xs e=>tups b xs (I.base.tups b xs e),λb o xs e=>frzs b o xs (I.base.frzs b o xs e),λb ps e=>?_⟩,?_,λx c e=>?_,?_,λx c e=>?_,λp hp=>?_,hok,I.len⟩
 ·exact keep b o (neL b o e) hb (neC b o e hx) (I.base.keep b o e n hb hx) (I.base.free b o e n hx)
 ·obtain⟨sl,e1⟩:=I.base.slot b o e n hb hx;obtain⟨sl',e2⟩:=slot b _ (neL b o e) hb (neC b o e hx) e1 (I.base.free b o e n hx);exact⟨sl',e2⟩
 ·obtain⟨o',e1⟩:=I.base.there b o e hx;exact free b o' (neC b o e hx) e1 (I.base.free b o e n hx)
 ·obtain⟨o',e1⟩:=I.base.there b o e hx;exact there b o' (neC b o e hx) e1
 ·obtain⟨m1,e1⟩:=I.base.tbls b ps e;obtain⟨m2,e2⟩:=tbls b _ e1;exact⟨m1++m2,by rw[e2,Array.append_assoc]⟩
 ·obtain⟨m,hn,hl⟩:=I.loc;refine⟨m,ns m hn,λi x v e1 e2 e3=>?_⟩;obtain⟨u,r,l⟩:=hl i x v e1 e2 e3;refine⟨u,r,?_⟩;rcases l with l|⟨k,c,e,z⟩
  ·exact .inl l
  ·exact .inr ⟨k,c,e,cellK x c e _ z⟩
 ·obtain⟨v,z⟩:=I.cell x c e;exact⟨v,cellK x c e v z⟩
 ·obtain⟨m,⟨o,_,_,ho,_⟩,_⟩:=I.loc;exact free _ o (λz=>(hch _ z).2.1 rfl) ho I.free
 ·obtain⟨v,o,ho,hd⟩:=I.cell x c e;exact free c o (λz=>(hch c z).2.2.1 x c e rfl) ho (I.freeC x c e)
 ·obtain⟨e,n,ne,nf,d⟩:=I.pin p hp;have nch:p.1∉ch:=λz=>(hch p.1 z).2.2.2 p hp rfl;exact⟨keep p.1 p.2 ne nf nch e n,free p.1 p.2 nch e n,ne,nf,d⟩
theorem Inv.un(I:Inv X pins σ H s)(u:Un X.fs [] H H' s.heap h')(hok:HOk X.prog X.w H' h'):Inv X pins σ H' {s with heap:=h',toks:=t'}:=by
 obtain⟨m,⟨o,es,ep,ho,r⟩,_⟩:=id I.loc;obtain⟨sl,hL⟩:=u.any ho I.free (by simp);exact I.step (g':=s.gens) (d':=s.drawn) (ch:=[]) (λ_ z=>nomatch z) (λb o _ hb _ e n=>u.keep b o e n hb (by simp)) (λb o _ hb _ e n=>u.slot b o e n hb (by simp)) (λb o _ e n=>u.free b o e n (by simp)) (λb o _ e=>u.there b o e (by simp)) u.tups u.frzs u.tbls (λm' hm=>by
  obtain⟨o',es',ep',ho',r'⟩:=hm;rw[ho]at ho';cases ho';exact⟨_,es',ep',hL,r'⟩) hok I.bare
theorem Inv.call(I:Inv X pins σ H s)(u:Un (iP X.stack) ch H H' s.heap h')(hok:HOk X.prog X.w H' h')(hg:AllBare g')
  (hch:∀b∈ch,(b∈X.ex\/X.s₀.heap.objs.size<=b)/\b≠X.env.locals/\(∀x c,X.env.cells.lookup x=ae c->c≠b)/\∀p∈X.pn++pins,p.1≠b):
  Inv X pins σ H' {s with heap:=h',gens:=g',drawn:=d',toks:=t'}:=by
 obtain⟨m,⟨o,es,ep,ho,r⟩,_⟩:=id I.loc;obtain⟨sl,hL⟩:=u.any ho I.free λz=>(hch _ z).2.1 rfl;exact I.step (ch:=ch) hch (λb o hL hb hc e n=>u.keep b o e n (λz=>(Aq.mp (I.stkSub b z)).elim hL hb) hc) (λb o _ _ hc e n=>u.any e n hc) (λb o hc e n=>u.free b o e n hc) (λb o hc e=>u.there b o e hc) u.tups u.frzs u.tbls (λm' hm=>by
  obtain⟨o',es',ep',ho',r'⟩:=hm;rw[ho]at ho';cases ho';exact⟨_,es',ep',hL,r'⟩) hok hg
theorem Inv.turned(I:Inv X pins σ H s)(k:∀b o,b≠it->s.heap.get? b=ae o->h'.get? b=ae o)(hn:H it=af)(hL:it≠X.env.locals)
  (h1:it∈X.ex\/X.s₀.heap.objs.size<=it) (h2:∀x c,X.env.cells.lookup x=ae c->c≠it) (h3:∀p∈X.pn++pins,p.1≠it):Inv X pins σ H {s with heap:=h',toks:=t'}:=by
 have nit:∀b u,H b=ae u->b≠it:=λb u e z=>by rw[z,hn]at e;cases e
 refine I.step (g':=s.gens) (d':=s.drawn) (ch:=[it]) (λb hb=>?_) (λb o _ _ hc e _=>k b o (λz=>hc (by simp[z])) e) (λb o _ _ hc e _=>⟨o.slots,k b o (λz=>hc (by simp[z])) e⟩) (λ_ _ _ _ n=>n)
  (λb o hc e=>⟨o,k b o (λz=>hc (by simp[z])) e⟩) (λ_ _ e=>e) (λ_ _ _ e=>e) (λb ps e=>⟨#[],by rw[e];simp⟩) (λm hm=>?_) (λb u e=>?_) I.bare
 ·have e:b=it:=by simpa using hb
  subst e;exact⟨h1,hL,h2,h3⟩
 ·obtain⟨o,es,ep,ho,r⟩:=hm;exact⟨o,es,ep,k _ o (Ne.symm hL) ho,r⟩
 ·refine(I.hok b u e).stay (λc v hc q=>k c v ?_ q) (λ_ q=>q) λ_ _ q=>q;rcases hc with z|z
  ·rw[z];exact nit b u e
  ·exact nit c _ z
theorem Inv.tok(I:Inv X pins σ H s)(t):Inv X pins σ H {s with toks:=t}:=I.un (h':=s.heap) (t':=t) Un.refl I.hok
theorem Inv.kept(I:Inv X pins σ H s)(k:∀b u,s.heap.get? b=ae u->h'.get? b=ae u):Inv X pins σ H {s with heap:=h',toks:=t'}:=I.un (Un.kept k) (I.hok.kept k)
theorem Inv.laid{a:Addr}(I:Inv X pins σ H s)(k:∀b u,s.heap.get? b=ae u->h'.get? b=ae u)(hp:s.heap.objs.size<=a)(new:ObjOk X.prog X.w (upd H a o) h' a o):
  Inv X pins σ (upd H a o) {s with heap:=h',toks:=t'}:=I.un (Un.laid k hp (I.hok.fresh hp)) (I.hok.laid k hp new)
theorem Inv.write(I:Inv X pins σ H s)(mu:pN (H x))(he:e=x\/H e=ae (.own x))(k:∀b u,b≠e->s.heap.get? b=ae u->h'.get? b=ae u)(heo:∃u,h'.get? e=ae u)
  (new:ObjOk X.prog X.w (upd H x o) h' x o):Inv X pins σ (upd H x o) {s with heap:=h',toks:=t'}:=I.un (Un.write mu he k heo) (I.hok.write mu he k heo new)
theorem Inv.pins_of(I:Inv X pins σ H s)(h:∀p∈pins',s.heap.get? p.1=ae p.2/\H p.1=af/\p.1≠X.env.locals/\p.1∉X.fs/\∀v,p.2.data≠.cell v):Inv X pins' σ H s:=
 ⟨I.ok,I.os,I.bare,I.base,I.loc,I.cell,I.free,I.freeC,λp hp=>(Ax.mp hp).elim (λz=>I.pin p (Bx _ z)) (h p),I.hok,I.len⟩
theorem EJ{N:List Str}(hN:N.Nodup){i j:Nat}(a:N[i]?=ae x)(b:N[j]?=ae x):i=j:=by
 obtain⟨h1,e1⟩:=Bu.mp a;obtain⟨h2,e2⟩:=Bu.mp b;exact(List.getElem_inj hN).mp (e1.trans e2.symm)
theorem Hk(I:Inv X pins σ H s)(hN:X.N.Nodup)(hi:X.N[i]?=ae x)(hx:jz X.env.scope x)(r:RelV v u)
  (h:∀s',Inv X pins (σ.set i (ae v)) H s'->(∃a,Dj a s.heap s'.heap/\(a=X.env.locals\/X.env.cells.lookup x=ae a))->Q () s') (hf:X.fn x=ah\/X.env.scope.names.lookup x=ae .local:=by first|exact .inl rfl|exact .inr rfl|assumption):Bd M A (storeName X.env x u) Q E s:=by
 obtain⟨m,hn,hl⟩:=id I.loc;have hcls:(X.env.scope.kind==.class || (X.env.scope.kind==.module&&X.env.locals != X.env.globals))=ai:=by rw[I.ok.kind];rfl
 have hiσ:i < σ.length:=by rw[I.len];exact(Bu.mp hi).1
 have cne:=I.cne;have tracked:∀{a:Addr}{h':Heap},(∃o,s.heap.get? a=ae o/\H a=af)->Dj a s.heap h'->HOk X.prog X.w H h':=λ{a h'} ha hs b ob e=>by
  obtain⟨_,_,hfree⟩:=ha;refine(I.hok b ob e).stay (λc w' hc q=>(hs.2 c ?_).trans q) (λ_ q=>q) λ_ _ q=>q
  rintro rfl
  rcases hc with rfl|hc
  ·rw[hfree]at e;cases e
  ·rw[hfree]at hc;cases hc
 rcases hx with hk|hk
 ·refine wpAny_storeName_local hk hn (λh' hn' hs=>?_) hcls;obtain⟨oL,_,_,hoL,_⟩:=id hn;refine h _ ⟨I.ok,I.os,I.bare,⟨λb o e n hb hx=>?_,λb o e n hb hx=>?_,I.base.free,λb o e hx=>?_,I.base.tups,I.base.frzs,I.base.tbls⟩,⟨_,hn',λj y v' e1 e2 e3=>?_⟩,λy c e=>?_,I.free,I.freeC,λp hp=>?_,tracked ⟨oL,hoL,I.free⟩ hs,by simpa using I.len⟩ ⟨_,hs,.inl rfl⟩
  ·exact(hs.2 b (Bq (By (A0 e) I.ok.above))).trans (I.base.keep b o e n hb hx)
  ·obtain⟨sl,e1⟩:=I.base.slot b o e n hb hx;exact⟨sl,(hs.2 b (Bq (By (A0 e) I.ok.above))).trans e1⟩
  ·obtain⟨o',e1⟩:=I.base.there b o e hx;exact⟨o',(hs.2 b (Bq (By (A0 e) I.ok.above))).trans e1⟩
  ·by_cases hj:j=i
   ·subst hj;rw[hi]at e1;cases e1;rw[List.getElem?_set_self hiσ]at e2;cases e2;exact⟨u,r,.inl ⟨hk,by simp⟩⟩
   ·rw[Dm (Ne.symm hj)]at e2;obtain⟨u',r',q⟩:=hl j y v' e1 e2 e3;refine⟨u',r',?_⟩;rcases q with⟨k,e⟩|⟨k,c,e,z⟩
    ·refine .inl ⟨k,?_⟩;have:y≠x:=λe=>hj (EJ hN e1 (e▸hi));simp[this,e]
    ·exact .inr ⟨k,c,e,z.sameBut hs (cne y c e)⟩
  ·obtain⟨w',z⟩:=I.cell y c e;exact⟨w',z.sameBut hs (cne y c e)⟩
  ·obtain⟨e,n,ne,nf,d⟩:=I.pin p hp;exact⟨(hs.2 p.1 ne).trans e,n,ne,nf,d⟩
 ·have hfn:X.fn x=ah:=by
   rcases hf with z|z
   ·exact z
   ·rw[z]at hk;cases hk
  obtain⟨c,hc⟩:=I.ok.has x (.inl hk);obtain⟨w',z⟩:=I.cell x c hc;refine wpAny_storeName_cell I.ok.kind hk hc z (λh' hc' hs=>?_);obtain⟨oc,hoc,hocd⟩:=id z;refine h {s with heap:=h'} ⟨I.ok,I.os,I.bare,⟨λb o e n hb hx=>?_,λb o e n hb hx=>?_,I.base.free,λb o e hx=>?_,I.base.tups,I.base.frzs,I.base.tbls⟩,⟨m,hn.sameBut hs (Ne.symm (cne x c hc)),λj y v' e1 e2 e3=>?_⟩,λy c' e=>?_,I.free,I.freeC,λp hp=>?_,tracked ⟨oc,hoc,I.freeC x c hc⟩ hs,by simpa using I.len⟩ ⟨c,hs,.inr hc⟩
  ·exact(hs.2 b (Bq (By (A0 e) (I.ok.cab x c hfn hc)))).trans (I.base.keep b o e n hb hx)
  ·obtain⟨sl,e1⟩:=I.base.slot b o e n hb hx;exact⟨sl,(hs.2 b (Bq (By (A0 e) (I.ok.cab x c hfn hc)))).trans e1⟩
  ·obtain⟨o',e1⟩:=I.base.there b o e hx;exact⟨o',(hs.2 b (Bq (By (A0 e) (I.ok.cab x c hfn hc)))).trans e1⟩
  ·by_cases hj:j=i
   ·subst hj;rw[hi]at e1;cases e1;rw[List.getElem?_set_self hiσ]at e2;cases e2;exact⟨u,r,.inr ⟨.inl hk,c,hc,hc'⟩⟩
   ·rw[Dm (Ne.symm hj)]at e2;obtain⟨u',r',q⟩:=hl j y v' e1 e2 e3;refine⟨u',r',?_⟩;rcases q with q|⟨k,c',e,z'⟩
    ·exact .inl q
    ·refine .inr ⟨k,c',e,z'.sameBut hs ?_⟩
     rintro rfl
     exact hj (EJ hN e1 (I.ok.inj _ _ _ e hc▸hi))
  ·by_cases hcc:c'=c
   ·subst hcc;exact⟨_,hc'⟩
   ·obtain⟨w2,z2⟩:=I.cell y c' e;exact⟨w2,z2.sameBut hs hcc⟩
  ·obtain⟨e,n,ne,nf,d⟩:=I.pin p hp;refine⟨(hs.2 p.1 ?_).trans e,n,ne,nf,d⟩;intro q;rw[q,hoc]at e;have q':oc=p.2:=B3 e;exact d w' (by rw[<-q'];exact hocd)
theorem BJ(I:Inv X pins σ H s)(hN:X.N.Nodup)(hi:X.N[i]?=ae x)(hx:jz X.env.scope x)(r:RelV v u)
  (h:∀s',Inv X pins (σ.set i (ae v)) H s'->Q () s') (hf:X.fn x=ah\/X.env.scope.names.lookup x=ae .local:=by first|exact .inl rfl|exact .inr rfl|assumption):Bd M A (storeName X.env x u) Q E s:=
 Hk I hN hi hx r (λs' I' _=>h s' I') hf
theorem Inv.call'(I:Inv X pins σ H s)(ho:s'.os=s.os)(u:Un (iP X.stack) ch H H' s.heap s'.heap)(hok:HOk X.prog X.w H' s'.heap)(hg:AllBare s'.gens)
  (hch:∀b∈ch,(b∈X.ex\/X.s₀.heap.objs.size<=b)/\b≠X.env.locals/\(∀x c,X.env.cells.lookup x=ae c->c≠b)/\∀p∈X.pn++pins,p.1≠b):Inv X pins σ H' s':=by
 obtain⟨h',g',d',t',o'⟩:=s';have e:o'=s.os:=ho;subst e;exact I.call (g':=g') (t':=t') (d':=d') u hok hg hch
end
abbrev XK:=Aj->Option Addr->Hp->Prop
abbrev St:=List (Option V)
abbrev VK:=V->Hp->Prop
abbrev TE:=St->Hp->VK->Prop
abbrev TT:=St->Hp->(Bool->Hp->Prop)->Prop
abbrev TA:=St->Hp->(List V->Hp->Prop)->Prop
structure Ends where
 nx:St->Hp->Prop
 rt:VK
 bk:St->Hp->Prop:=λ_ _=>False
 ct:St->Hp->Prop:=λ_ _=>False
abbrev TS:=Ends->St->Hp->Prop
def EP(X:Cx)(pins:List (Addr×Obj))(σ:St)(Q:VK)(u:Aj)(s':Ao):Prop:=∃v H',Inv X pins σ H' s'/\RelV v u/\Q v H'
def TP(X:Cx)(pins:List (Addr×Obj))(σ:St)(Q:Bool->Hp->Prop)(b:Bool)(s':Ao):Prop:=∃H',Inv X pins σ H' s'/\Q b H'
def AP(X:Cx)(pins:List (Addr×Obj))(σ:St)(Q:List V->Hp->Prop)(us:List Aj)(s':Ao):Prop:=∃vs H',Inv X pins σ H' s'/\Vals vs us/\Q vs H'
def SP(X:Cx)(pins:List (Addr×Obj))(D:Ends)(f:Flow)(s':Ao):Prop:=
 match f with
 |.next=>∃σ' H',Inv X pins σ' H' s'/\D.nx σ' H'
 |.brk=>∃σ' H',Inv X pins σ' H' s'/\D.bk σ' H'
 |.cont=>∃σ' H',Inv X pins σ' H' s'/\D.ct σ' H'
 |.ret u=>∃v σ' H',Inv X pins σ' H' s'/\RelV v u/\D.rt v H'
def PE(X:Cx)(e:Expr)(t:TE):Prop:=
 ∀(pins:List (Addr×Obj))(s:Ao)(σ:St)(H:Hp)(Q:VK),Inv X pins σ H s->t σ H Q->Bd (Bn X.prog X.w) X.A (eval e X.env) (EP X pins σ Q) X.xe s
def PT(X:Cx)(e:Expr)(t:TT):Prop:=
 ∀(pins:List (Addr×Obj))(s:Ao)(σ:St)(H:Hp)(Q:Bool->Hp->Prop),Inv X pins σ H s->t σ H Q->Bd (Bn X.prog X.w) X.A (isTrue e X.env (eval e X.env)) (TP X pins σ Q) X.xe s
def PW(X:Cx)(e:Expr)(t:TT):Prop:=
 ∀(whole:Sem Aj)(pins:List (Addr×Obj))(s:Ao)(σ:St)(H:Hp)(Q:Bool->Hp->Prop),Inv X pins σ H s->t σ H Q->Bd (Bn X.prog X.w) X.A (isTrue e X.env whole) (TP X pins σ Q) X.xe s
theorem PW.pt(h:PW X e t):PT X e t:=h _
def PA(X:Cx)(es:List Expr)(t:TA):Prop:=
 ∀(pos:Pos)(pins:List (Addr×Obj))(s:Ao)(σ:St)(H:Hp)(Q:List V->Hp->Prop),Inv X pins σ H s->t σ H Q->Bd (Bn X.prog X.w) X.A (spliced (Df pos (A8 es X.env))) (AP X pins σ Q) X.xe s
def PS(X:Cx)(st:Stmt)(t:TS):Prop:=
 ∀(pins:List (Addr×Obj))(s:Ao)(σ:St)(H:Hp)(D:Ends),Inv X pins σ H s->t D σ H->Bd (Bn X.prog X.w) X.A (exec st X.env) (SP X pins D) X.xe s
def PSs(X:Cx)(st:List Stmt)(t:TS):Prop:=
 ∀(pins:List (Addr×Obj))(s:Ao)(σ:St)(H:Hp)(D:Ends),Inv X pins σ H s->t D σ H->Bd (Bn X.prog X.w) X.A (execs st X.env) (SP X pins D) X.xe s
theorem bh(h:Bd M A t Q E s)(hQ:∀a s,Q a s->Q' a s):Bd M A t Q' E s:=Dn h hQ λ_ _ x=>x
section
variable{X:Cx}
theorem ZU(ha:PE X a ta)(hb:PE X b tb){σ:St}{R:V->V->Hp->Prop}(I:Inv X pins σ H s)(h:ta σ H λx H1=>tb σ H1 λy H2=>R x y H2)
   {Q:α->Ao->Prop} {f:Aj->Aj->Sem α}
  (hf:∀v u s2 x y H2,Inv X pins σ H2 s2->RelV x v->RelV y u->R x y H2->Bd (Bn X.prog X.w) X.A (f v u) Q X.xe s2):
  Bd (Bn X.prog X.w) X.A (eval a X.env) (λv s₁=>Bd (Bn X.prog X.w) X.A (eval b X.env) (λu s₂=>Bd (Bn X.prog X.w) X.A (f v u) Q X.xe s₂) X.xe s₁) X.xe s:=by
 refine bh (ha pins s σ H _ I h) λv s1 ⟨x,H1,I1,r1,q1⟩=>?_;refine bh (hb pins s1 σ H1 _ I1 q1) λu s2 ⟨y,H2,I2,r2,q2⟩=>?_;exact hf v u s2 x y H2 I2 r1 r2 q2
def b9(i:Nat):TE:=λσ H Q=>∃v,σ[i]?=ae (ae v)/\Q v H
def tC(v:V):TE:=λ_ H Q=>Q v H
theorem jw{pos:Pos}(hN:X.N[i]?=ae x)(hv:gT X.env.scope x)(hd:(x==("__debug__":Str))=ai:=by decide)(hcd:(x==("__classdict__":Str))=ai:=by decide):PE X (.Name x pos) (b9 i):=by
 intro pins s σ H Q I h;obtain⟨v,e,h⟩:=h;obtain⟨m,hn,hl⟩:=I.loc;obtain⟨u,r,l⟩:=hl i x v hN e hv;have fin:EP X pins σ Q u s:=⟨v,H,I,r,h⟩;rcases l with⟨hk,hm⟩|⟨hk,c,hc,hcell⟩
 ·exact wpAny_Name (wpAny_loadName_local I.ok.kind hk hn hm fin) hd
 ·rcases hk with hk|hk
  ·exact wpAny_Name (wpAny_loadName_cell I.ok.kind hk hc hcell fin) hd
  ·exact wpAny_Name (wpAny_loadName_free I.ok.kind hk hc hcell fin hcd) hd
theorem cC{i j pos}:PE X (.Constant (.int i) j pos) (tC (.int i)):=λ_ _ _ H _ I h=>wpAny_Constant_int ⟨.int i,H,I.tok _,⟨_,rfl⟩,h⟩
theorem XF{b j pos}:PE X (.Constant (.bool b) j pos) (tC (.bl b)):=λ_ _ _ H _ I h=>Constant_bool ⟨.bl b,H,I,rfl,h⟩
theorem sZ{j pos}:PE X (.Constant .none j pos) (tC .non):=λ_ _ _ H _ I h=>Constant_none ⟨.non,H,I,rfl,h⟩
theorem nQ{x j pos}:PE X (.Constant (.str x) j pos) (tC (.str x)):=λ_ _ _ H _ I h=>Calls.Constant_str ⟨.str x,H,I.tok _,⟨_,rfl⟩,h⟩
def Gl(X:Cx)(x:Str):Prop:=X.env.kindOf x=ae .globalImplicit
theorem GU{σ:St}(I:Inv X pins σ H s)(hg:Gl X x)(hm:X.mg x=ae u)(h:Q u s)
  (hd:(x==("__debug__":Str))=ai:=by decide):Bd (Bn X.prog X.w) X.A (eval (.Name x pos) X.env) Q E s:=
 Calls.Name_function_global I.ok.kind hg (Calls.loadGlobal_global (by rw[I.ok.glob];exact I.mod.glob.keeps I.bk) hm h) hd
theorem lR{E:Aj->Ao->Prop}{σ:St}{pos:Pos}{Q:Aj->Ao->Prop}(I:Inv X pins σ H s)(hg:Gl X x)(hm:X.mg x=af)(hv:Cf x=ae u)(h:Q u s)
  (hn:x≠"__name__":=by decide) (hd:(x==("__debug__":Str))=ai:=by decide):Bd (Bn X.prog X.w) X.A (eval (.Name x pos) X.env) Q E s:=by
 obtain⟨mb,h1,h2⟩:=I.mod.blt;exact Calls.Name_function_global I.ok.kind hg (Calls.loadGlobal_builtin (by rw[I.ok.glob];exact I.mod.glob.keeps I.bk) hm (by rw[I.ok.blt];exact h1.keeps I.bk) ((h2 x hn).trans hv) h) hd
theorem kO(hg:Gl X x)(hm:X.mg x=ae u)(r:RelV v u)(hd:(x==("__debug__":Str))=ai:=by decide):PE X (.Name x pos) (tC v):=
 λ_ _ _ H _ I h=>GU I hg hm ⟨v,H,I,r,h⟩ hd
theorem YW{pos:Pos}(hg:Gl X x)(hm:X.mg x=af)(hv:Cf x=ae u)(r:RelV v u)(hn:x≠"__name__":=by decide)(hd:(x==("__debug__":Str))=ai:=by decide):PE X (.Name x pos) (tC v):=
 λ_ _ _ H _ I h=>lR I hg hm hv ⟨v,H,I,r,h⟩ hn hd
variable{a b:Expr}{ta tb:TE}{pos:Pos}
def PC(X:Cx)(op:CmpOp)(a b:Expr)(t:TE):Prop:=
 ∀(pins:List (Addr×Obj))(s:Ao)(σ:St)(H:Hp)(Q:VK),Inv X pins σ H s->t σ H Q->
  Bd (Bn X.prog X.w) X.A (eval a X.env) (λv s₁=>Bd (Bn X.prog X.w) X.A (eval b X.env) (λu s₂=>Bd (Bn X.prog X.w) X.A (B4 op v u) (EP X pins σ Q) X.xe s₂) X.xe s₁) X.xe s
theorem RP(b)(h:op≠.In)(h2:op≠.NotIn):Dw op b=ai:=by
 have e1:(op==CmpOp.In)=ai:=by cases op<;>first|rfl|exact absurd rfl h
 have e2:(op==CmpOp.NotIn)=ai:=by cases op<;>first|rfl|exact absurd rfl h2
 cases b<;>simp[Dw,e1,e2]
def tB(t:TE):TT:=λσ H Q=>t σ H λx H1=>∃c,x=.bl c/\Q c H1
theorem ZR(h:PC X op a b t)(h1:Dw op b=ai:=by first|exact RP _ ∎ ∎|rfl):PT X (.Compare a [op] [b] pos) (tB t):=by
 intro pins s σ H Q I hw;refine wpAny_isTrue_Compare1 (bh (h pins s σ H _ I hw) λv s1 h1=>bh h1 λu s2 h2=>bh h2 λc s3 ⟨x,H1,I1,r1,q1⟩=>?_) h1;obtain⟨d,rfl,q⟩:=q1;cases r1;exact Di ⟨H1,I1,q⟩
theorem Li(h:PE X e t)(he:∀whole,isTrue e X.env whole=(do let v <-whole;standAt e.pos;holding [v] (truthy v)):=by intro _;rfl):PT X e (tB t):=by
 intro pins s σ H Q I hw;refine isTrue_plain (bh (h pins s σ H _ I hw) λv s1 ⟨x,H1,I1,r1,q1⟩=>?_) (he _);obtain⟨d,rfl,q⟩:=q1;cases r1;exact Di ⟨H1,I1,q⟩
variable{tA tB':TT}{rest:List Expr}
def qG(t u:TT):TT:=λσ H Q=>t σ H λc H1=>if c=ah then u σ H1 Q else Q ai H1
def Jl(t u:TT):TT:=λσ H Q=>t σ H λc H1=>if c=ah then Q ah H1 else u σ H1 Q
def lD(t:TT):TT:=λσ H Q=>t σ H λc H1=>Q (!c) H1
theorem Jr(ha:PT X a tA):PW X (.BoolOp .And [a] pos) tA:=by
 intro wh pins s σ H Q I h;refine isTrue_and (bh (ha pins s σ H Q I h) λc s1 e=>?_);cases c with
 |true=>exact isTrue_and_nil e
 |false=>exact e
theorem V9(ha:PT X a tA):PW X (.BoolOp .Or [a] pos) tA:=by
 intro wh pins s σ H Q I h;refine isTrue_or (bh (ha pins s σ H Q I h) λc s1 e=>?_);cases c with
 |false=>exact isTrue_or_nil e
 |true=>exact e
theorem Ip(ha:PT X a tA)(hb:PW X (.BoolOp .And (b::rest) pos) tB'):PW X (.BoolOp .And (a::b::rest) pos) (qG tA tB'):=by
 intro wh pins s σ H Q I h;refine isTrue_and (bh (ha pins s σ H _ I h) λc s1 ⟨H1,I1,q1⟩=>?_);cases c with
 |true=>exact hb wh pins s1 σ H1 Q I1 q1
 |false=>exact⟨H1,I1,q1⟩
theorem QL(ha:PT X a tA)(hb:PW X (.BoolOp .Or (b::rest) pos) tB'):PW X (.BoolOp .Or (a::b::rest) pos) (Jl tA tB'):=by
 intro wh pins s σ H Q I h;refine isTrue_or (bh (ha pins s σ H _ I h) λc s1 ⟨H1,I1,q1⟩=>?_);cases c with
 |true=>exact⟨H1,I1,q1⟩
 |false=>exact hb wh pins s1 σ H1 Q I1 q1
theorem IL(ha:PT X a tA):PT X (.UnaryOp .Not a pos) (lD tA):=by
 intro pins s σ H Q I h;exact isTrue_not (ha pins s σ H (λc H1=>Q (!c) H1) I h)
def Ie(ta tb:TE):TE:=λσ H Q=>ta σ H λx H1=>∃c,x=.bl c/\if c=ah then tb σ H1 Q else Q (.bl ai) H1
def pT(ta tb:TE):TE:=λσ H Q=>ta σ H λx H1=>∃c,x=.bl c/\if c=ah then Q (.bl ah) H1 else tb σ H1 Q
def IV(ta:TE):TE:=λσ H Q=>ta σ H λx H1=>∃c,x=.bl c/\Q (.bl (!c)) H1
theorem Mr{op}(h:PE X a t):PE X (.BoolOp op [a] pos) t:=λpins s σ H Q I hw=>BoolOp_one (h pins s σ H Q I hw)
theorem Wd(ha:PE X a ta)(hb:PE X (.BoolOp .And (b::rest) pos) tb):PE X (.BoolOp .And (a::b::rest) pos) (Ie ta tb):=by
 intro pins s σ H Q I h;refine BoolOp_and (bh (ha pins s σ H _ I h) λv s1 ⟨x,H1,I1,r1,q1⟩=>?_);obtain⟨c,rfl,q1⟩:=q1;cases r1;refine Di ?_;cases c with
 |true=>exact hb pins s1 σ H1 Q I1 q1
 |false=>exact⟨.bl ai,H1,I1,rfl,q1⟩
theorem Sm(ha:PE X a ta)(hb:PE X (.BoolOp .Or (b::rest) pos) tb):PE X (.BoolOp .Or (a::b::rest) pos) (pT ta tb):=by
 intro pins s σ H Q I h;refine BoolOp_or (bh (ha pins s σ H _ I h) λv s1 ⟨x,H1,I1,r1,q1⟩=>?_);obtain⟨c,rfl,q1⟩:=q1;cases r1;refine Di ?_;cases c with
 |false=>exact hb pins s1 σ H1 Q I1 q1
 |true=>exact⟨.bl ah,H1,I1,rfl,q1⟩
theorem Ri(ha:PE X a ta):PE X (.UnaryOp .Not a pos) (IV ta):=by
 intro pins s σ H Q I h;refine UnaryOp_ (bh (ha pins s σ H _ I h) λv s1 ⟨x,H1,I1,r1,q1⟩=>?_);obtain⟨c,rfl,q1⟩:=q1;cases r1;exact not_of (Di ⟨.bl (!c),H1,I1,rfl,q1⟩)
def JB(t:TT)(ta tb:TE):TE:=λσ H Q=>t σ H λc H1=>if c=ah then ta σ H1 Q else tb σ H1 Q
theorem O8(hc:PT X c tA)(ha:PE X a ta)(hb:PE X b tb):PE X (.IfExp c a b pos) (JB tA ta tb):=by
 intro pins s σ H Q I h;refine wpAny_IfExp (bh (hc pins s σ H _ I h) λd s1 ⟨H1,I1,q1⟩=>?_);cases d with
 |true=>exact ha pins s1 σ H1 Q I1 q1
 |false=>exact hb pins s1 σ H1 Q I1 q1
end
def SqL(K:Ag)(H:Hp)(a:Addr)(xs:List V):Prop:=
 Rd H a (.lst xs) \/
  ∃(o:Obj)(its:Array Aj)(n:Nat),K.lookup a=ae o/\o.cls=.type "list"/\o.dict=af/\o.data=.seq its n/\its.size<=A6/\Vals xs its.toList
def SqT(K:Ag)(H:Hp)(a:Addr)(xs:List V):Prop:=
 Rd H a (.tup xs) \/
  ∃(o:Obj)(its:Array Aj)(n:Nat),K.lookup a=ae o/\o.cls=.type "tuple"/\o.data=.seq its n/\its.size<=A6/\Vals xs its.toList
def xH:Aj->Option V
 |.none=>ae .non
 |.bool b=>ae (.bl b)
 |.int i _=>ae (.int i)
 |.str x _=>ae (.str x)
 |.bytes b _=>ae (.byt b)
 |.float b _=>ae (.flt b)
 |.ref a=>ae (.ref a)
 |.type n=>ae (.ty n)
 |_=>af
theorem RelV.abs(r:RelV x u):xH u=ae x:=by
 cases x with
 |non=>cases r;rfl
 |bl _=>cases r;rfl
 |int _=>obtain⟨t,rfl⟩:=r;rfl
 |str _=>obtain⟨t,rfl⟩:=r;rfl
 |byt _=>obtain⟨t,rfl⟩:=r;rfl
 |flt _=>obtain⟨t,rfl⟩:=r;rfl
 |ref _=>cases r;rfl
 |ty _=>cases r;rfl
theorem RelV.inj(r:RelV x u)(q:RelV y u):x=y:=B3 (r.abs.symm.trans q.abs)
theorem Vals.inj:∀{xs ys:List V}{us:List Aj},Vals xs us->Vals ys us->xs=ys
 |_,_,_,.nil,.nil=>rfl
 |_,_,_,.cons r t,.cons r' t'=>by rw[r.inj r',Vals.inj t t']
section
variable{X:Cx}{pins:List (Addr×Obj)}{σ:St}{H:Hp}{s:Ao}{a:Addr}{xs ys:List V}
theorem SqL.of{K:Ag}(h:H a=ae (.lst xs)):SqL K H a xs:=.inl (.inl h)
theorem SqT.of{K:Ag}(h:H a=ae (.tup xs)):SqT K H a xs:=.inl (.inl h)
theorem Inv.list(I:Inv X pins σ H s)(h:SqL X.K H a xs):∃its:List Aj,Vals xs its/\PlainL s.heap a its.toArray/\xs.length<=A6:=by
 rcases h with h|⟨o,its,n,hk,hc,hd,hs,hz,r⟩
 ·obtain⟨z,its,n,r,e⟩:=h.ok I.hok;exact⟨its,r,⟨_,n,e,rfl,rfl,rfl⟩,z⟩
 ·refine⟨its.toList,r,⟨o,n,I.kIn a o hk,hc,hd,by simpa using hs⟩,?_⟩;have e:=r.length;simp only[C5]at e;omega
theorem Inv.tuple(I:Inv X pins σ H s)(h:SqT X.K H a xs):∃its:List Aj,Vals xs its/\IsTup s.heap a its.toArray/\xs.length<=A6:=by
 rcases h with h|⟨o,its,n,hk,hc,hs,hz,r⟩
 ·obtain⟨z,its,r,p⟩:=h.ok I.hok;exact⟨its,r,p.tup,z⟩
 ·refine⟨its.toList,r,⟨o,I.kIn a o hk,hc,n,by simpa using hs⟩,?_⟩;have e:=r.length;simp only[C5]at e;omega
theorem Inv.list_inj(I:Inv X pins σ H s)(h:SqL X.K H a xs)(h':SqL X.K H a ys):xs=ys:=by
 obtain⟨its,r,⟨o,n,e,_,_,d⟩,_⟩:=I.list h;obtain⟨its',r',⟨o',n',e',_,_,d'⟩,_⟩:=I.list h';rw[e]at e';cases e';rw[d]at d';injection d' with d1 _;have:its=its':=by simpa using congrArg Array.toList d1
 subst this;exact r.inj r'
theorem Inv.tuple_inj(I:Inv X pins σ H s)(h:SqT X.K H a xs)(h':SqT X.K H a ys):xs=ys:=by
 obtain⟨its,r,⟨o,e,_,n,d⟩,_⟩:=I.tuple h;obtain⟨its',r',⟨o',e',_,n',d'⟩,_⟩:=I.tuple h';rw[e]at e';cases e';rw[d]at d';injection d' with d1 _;have:its=its':=by simpa using congrArg Array.toList d1
 subst this;exact r.inj r'
end
abbrev Cx.wish(X:Cx)(E:Aj->Ao->Prop):Cx:={ X with xe:=E}
abbrev Cx.nox(X:Cx):Cx:=X.wish λ_ _=>False
theorem Cx.Ok.wish{X:Cx}(ok:X.Ok)(E):(X.wish E).Ok:=
 ⟨ok.mod,ok.kind,ok.glob,ok.blt,ok.above,ok.inj,ok.has,ok.cab,ok.hd,ok.frames,ok.stk,ok.exf,ok.bs,ok.bsz,ok.noex,ok.exfs,ok.funs,ok.frf⟩
theorem Cx.Ok.unwish{X:Cx}(ok:(X.wish E).Ok):X.Ok:=
 ⟨ok.mod,ok.kind,ok.glob,ok.blt,ok.above,ok.inj,ok.has,ok.cab,ok.hd,ok.frames,ok.stk,ok.exf,ok.bs,ok.bsz,ok.noex,ok.exfs,ok.funs,ok.frf⟩
section
variable{X:Cx}{pins:List (Addr×Obj)}{σ:St}{H:Hp}{s:Ao}{E:Aj->Ao->Prop}
theorem Inv.wish(I:Inv X pins σ H s)(E):Inv (X.wish E) pins σ H s:=⟨I.ok.wish E,I.os,I.bare,I.base,I.loc,I.cell,I.free,I.freeC,I.pin,I.hok,I.len⟩
theorem Inv.unwish(I:Inv (X.wish E) pins σ H s):Inv X pins σ H s:=⟨I.ok.unwish,I.os,I.bare,I.base,I.loc,I.cell,I.free,I.freeC,I.pin,I.hok,I.len⟩
theorem SP.unwish(h:SP (X.wish E) pins D f s'):SP X pins D f s':=by
 cases f with
 |next=>obtain⟨σ',H',I,q⟩:=h;exact⟨σ',H',I.unwish,q⟩
 |brk=>obtain⟨σ',H',I,q⟩:=h;exact⟨σ',H',I.unwish,q⟩
 |cont=>obtain⟨σ',H',I,q⟩:=h;exact⟨σ',H',I.unwish,q⟩
 |ret u=>obtain⟨v,σ',H',I,r,q⟩:=h;exact⟨v,σ',H',I.unwish,r,q⟩
theorem PSs.nox{st:List Stmt}(h:PSs X.nox st t):PSs X st t:=λpins s σ H D I hw=>
 Dn (h pins s σ H D (I.wish _) hw) (λ_ _ q=>q.unwish) λ_ _ z=>False.elim z
end
section
variable{X:Cx}{st:Stmt}{rest:List Stmt}{t u:TS}{e:Expr}{te:TE}{pos:Pos}
def zP:TS:=λD σ H=>D.nx σ H
def gJ(t u:TS):TS:=λD σ H=>t {D with nx:=u D} σ H
theorem oD:PSs X [] zP:=λ_ _ σ H _ I h=>wpAny_execs_nil ⟨σ,H,I,h⟩
theorem gh(h1:PS X st t)(h2:PSs X rest u):PSs X (st::rest) (gJ t u):=by
 intro pins s σ H D I h;refine wpAny_execs_cons (bh (h1 pins s σ H {D with nx:=u D} I h) λf s1 q=>?_);cases f with
 |next=>
  obtain⟨σ',H',I',q⟩:=q;exact h2 pins s1 σ' H' D I' q
 |ret v=>exact q
 |brk=>exact q
 |cont=>exact q
theorem ib(h1:PS X st t):PSs X [st] t:=by
 intro pins s σ H D I h;refine wpAny_execs_cons (bh (h1 pins s σ H D I h) λf s1 q=>?_);cases f with
 |next=>exact wpAny_execs_nil q
 |ret v=>exact q
 |brk=>exact q
 |cont=>exact q
theorem Inv.quiet{σ:St}(I:Inv X pins σ H s):interactive X.env=ai:=by simp[interactive,I.ok.kind]
def ng(te:TE):TS:=λD σ H=>te σ H λ_ H1=>D.nx σ H1
theorem ka(he:PE X e te)(hs:Fw e af pos.line X.env=pure ai:=by rfl):PS X (.Expr e pos) (ng te):=by
 intro pins s σ H D I h;exact wpAny_Expr_any (bh (he pins s σ H _ I h) λv s1 ⟨x,H1,I1,r1,q1⟩=>⟨σ,H1,I1,q1⟩) I.quiet hs
def mF(te:TE):TS:=λD σ H=>te σ H D.rt
theorem nL(he:PE X e te):PS X (.Return (ae e) pos) (mF te):=by
 intro pins s σ H D I h;exact wpAny_Return_some (bh (he pins s σ H _ I h) λv s1 ⟨x,H1,I1,r1,q1⟩=>⟨x,σ,H1,I1,r1,q1⟩)
def lE(c:TT)(t u:TS):TS:=λD σ H=>c σ H λb H1=>if b=ah then t D σ H1 else u D σ H1
theorem lh(hc:PT X c tc)(ha:PSs X a t)(hb:PSs X b u):PS X (.If c a b pos) (lE tc t u):=by
 intro pins s σ H D I h;refine wpAny_If (bh (hc pins s σ H _ I h) λd s1 ⟨H1,I1,q1⟩=>?_);cases d with
 |true=>exact ha pins s1 σ H1 D I1 q1
 |false=>exact hb pins s1 σ H1 D I1 q1
end
abbrev TG:=V->St->Hp->(St->Hp->Prop)->Prop
abbrev iL:=List V->St->Hp->(St->Hp->Prop)->Prop
def PG(X:Cx)(target:Expr)(t:TG):Prop:=
 ∀(pins:List (Addr×Obj))(s:Ao)(σ:St)(H:Hp)(v:V)(u:Aj)(Q:St->Hp->Prop),Inv X pins σ H s->RelV v u->t v σ H Q->
  Bd (Bn X.prog X.w) X.A (assign target X.env u) (λ_ s'=>∃σ' H',Inv X pins σ' H' s'/\Q σ' H') X.xe s
def qD(X:Cx)(ts:List Expr)(t:iL):Prop:=
 ∀(pins:List (Addr×Obj))(s:Ao)(σ:St)(H:Hp)(vs:List V)(us:List Aj)(Q:St->Hp->Prop),Inv X pins σ H s->Vals vs us->t vs σ H Q->
  Bd (Bn X.prog X.w) X.A (assignInOrder ((Ee ts X.env).map (·.2)) us) (λ_ s'=>∃σ' H',Inv X pins σ' H' s'/\Q σ' H') X.xe s
abbrev l9:=V->V->V->Hp->(Hp->Prop)->Prop
def oE(X:Cx)(t:l9):Prop:=
 ∀(pins:List (Addr×Obj))(s:Ao)(σ:St)(H:Hp)(o i v:V)(ov iv u:Aj)(Q:Hp->Prop),Inv X pins σ H s->RelV o ov->RelV i iv->RelV v u->t o i v H Q->
  Bd (Bn X.prog X.w) X.A (setItem ov iv u) (λ_ s'=>∃H',Inv X pins σ H' s'/\Q H') X.xe s
abbrev sA:=V->V->Hp->VK->Prop
def IG(X:Cx)(op:Operator)(t:sA):Prop:=
 ∀(pins:List (Addr×Obj))(s:Ao)(σ:St)(H:Hp)(x y:V)(v u:Aj)(Q:VK),Inv X pins σ H s->RelV x v->RelV y u->t x y H Q->
  Bd (Bn X.prog X.w) X.A (inplaceOp op v u) (EP X pins σ Q) X.xe s
section
variable{X:Cx}{pos:Pos}
def fB(i:Nat):TG:=λv σ H Q=>Q (σ.set i (ae v)) H
theorem QI(hN:X.N.Nodup)(hi:X.N[i]?=ae x)(hx:jz X.env.scope x)(hf:X.fn x=ah\/X.env.scope.names.lookup x=ae .local:=by first|exact .inl rfl|exact .inr rfl|assumption):PG X (.Name x pos) (fB i):=by
 intro pins s σ H v u Q I r h;exact wpAny_assign_Name (BJ I hN hi hx r (λs' I'=>⟨_,H,I',h⟩) hf)
def j3:iL:=λvs σ H Q=>vs=[]/\Q σ H
def mK(t:TG)(u:iL):iL:=λvs σ H Q=>∃v r,vs=v::r/\t v σ H λσ' H'=>u r σ' H' Q
theorem Zo:qD X [] j3:=by
 intro pins s σ H vs us Q I r h;obtain⟨e,h⟩:=h;subst e;cases r;exact assignInOrder_nil ⟨σ,H,I,h⟩
theorem Y7(h1:PG X e t)(h2:qD X es u)
  (hs:(Ee (e::es) X.env).map (·.2)=assign e X.env::(Ee es X.env).map (·.2):=by rfl):qD X (e::es) (mK t u):=by
 intro pins s σ H vs us Q I r h;obtain⟨v,vr,e1,h⟩:=h;subst e1;cases r with
 |cons r rr=>
  rw[hs];refine assignInOrder_cons (bh (h1 pins s σ H _ _ _ I r h) λ_ s1 ⟨σ1,H1,I1,q1⟩=>?_);exact h2 pins s1 σ1 H1 _ _ Q I1 rr q1
def jd(K:Ag)(n:Nat)(t:iL):TG:=λv σ H Q=>∃a xs,v=.ref a/\SqT K H a xs/\xs.length=n/\t xs σ H Q
theorem O3{k:Nat}(hc:X.calm=ah)(h:qD X es t)
  (hn:(Ee es X.env).length=n:=by rfl) (hst:(Ee es X.env).findIdx? (·.1)=af:=by rfl):PG X (.Tuple es k pos) (jd X.K n t):=by
 intro pins s σ H v u Q I r hw;obtain⟨a,xs,e1,hq,hl,hw⟩:=hw;subst e1;cases r;obtain⟨its,rv,ht,hz⟩:=I.tuple hq;refine assign_Tuple_tuple (I.ok.hd hc) ht (by simp[hn,<-hl,rv.length]) hst λh' hx=>?_;have I1:Inv X pins σ H {s with heap:=h'}:=I.kept (t':=s.toks) λb o e=>hx b o (Bq (A0 e)) e;exact h pins _ σ H xs _ Q I1 (by simpa using rv) hw
def pz(to ti:TE)(t:l9):TG:=λv σ H Q=>to σ H λo H1=>ti σ H1 λi H2=>t o i v H2 λH3=>Q σ H3
theorem ua(ho:PE X o to)(hi:PE X i ti)(hs:oE X t)
  (ha:∀v,assign (.Subscript o i pos) X.env v=(do
   let ov <-holding [v] (eval o X.env)
   let iv <-holding [v,ov] (eval i X.env)
   standAt pos
   holding [v,ov,iv] (setItem ov iv v)
   release [v,ov,iv] []):=by intro _;rfl):PG X (.Subscript o i pos) (pz to ti t):=by
 intro pins s σ H v u Q I r h;rw[ha];refine Ad (Dv (bh (ho pins s σ H _ I h) λov s1 ⟨x,H1,I1,r1,q1⟩=>?_));refine Ad (Dv (bh (hi pins s1 σ H1 _ I1 q1) λiv s2 ⟨y,H2,I2,r2,q2⟩=>?_));refine Ad (wpAny_standAt (Ad (Dv (bh (hs pins s2 σ H2 x y v ov iv u _ I2 r1 r2 r q2) λ_ s3 ⟨H3,I3,q3⟩=>?_))));exact wpAny_release ⟨σ,H3,I3,q3⟩
def c9(te:TE)(g:TG):TS:=λD σ H=>te σ H λx H1=>g x σ H1 D.nx
theorem ou(he:PE X e te)(hg:PG X tg g)(hs:swapsWithSole [tg] e pos.line X.env=pure ai:=by rfl)(hw:swappedStores [tg] e X.env=pure af:=by rfl)
  (h1:(Ee [tg] X.env).map (·.2)=[assign tg X.env]:=by rfl):PS X (.Assign [tg] e pos) (c9 te g):=by
 intro pins s σ H D I h;refine wpAny_Assign_stores (bh (he pins s σ H _ I h) λv s1 ⟨x,H1,I1,r1,q1⟩=>?_) hs hw;rw[h1];exact bh (hg pins s1 σ H1 x v _ I1 r1 q1) λ_ s2 q=>q
theorem iN(hN:X.N.Nodup)(hi:X.N[i]?=ae x)(hx:jz X.env.scope x)(he:PE X e te)(hs:Fw e (ae (.Name x pos')) pos.line X.env=pure ai:=by rfl)(hf:X.fn x=ah\/X.env.scope.names.lookup x=ae .local:=by first|exact .inl rfl|exact .inr rfl|assumption):
  PS X (.Assign [.Name x pos'] e pos) (c9 te (fB i)):=by
 intro pins s σ H D I h;refine wpAny_Assign_Name (bh (he pins s σ H _ I h) λv s1 ⟨y,H1,I1,r1,q1⟩=>?_) hs;exact BJ I1 hN hi hx r1 (λs2 I2=>⟨_,H1,I2,q1⟩) hf
def qh(i:Nat)(te:TE)(ti:sA):TS:=λD σ H=>∃x,σ[i]?=ae (ae x)/\te σ H λy H1=>ti x y H1 λz H2=>D.nx (σ.set i (ae z)) H2
theorem WW(hN:X.N.Nodup)(hi:X.N[i]?=ae x)(hx:jz X.env.scope x)(he:PE X e te)(ho:IG X op ti)(hf:X.fn x=ah\/X.env.scope.names.lookup x=ae .local:=by first|exact .inl rfl|exact .inr rfl|assumption):
  PS X (.AugAssign (.Name x pos') op e pos) (qh i te ti):=by
 intro pins s σ H D I h;obtain⟨v,e1,h⟩:=h;obtain⟨m,hn,hl⟩:=I.loc;have vis:gT X.env.scope x:=by rcases hx with k|k;exact .inl k;exact .inr (.inl k)
 obtain⟨u,r,l⟩:=hl i x v hi e1 vis;refine wpAny_AugAssign_Name ?_;have go:Bd (Bn X.prog X.w) X.A (eval e X.env) (λw s₂=>Bd (Bn X.prog X.w) X.A (inplaceOp op u w) (λr s₃=>Bd (Bn X.prog X.w) X.A (storeName X.env x r) (λ_=>SP X pins D .next) X.xe s₃) X.xe s₂) X.xe s:=by
  refine bh (he pins s σ H _ I h) λw s1 ⟨y,H1,I1,r1,q1⟩=>?_;refine bh (ho pins s1 σ H1 v y u w _ I1 r r1 q1) λz s2 ⟨zv,H2,I2,r2,q2⟩=>?_;exact BJ I2 hN hi hx r2 (λs3 I3=>⟨_,H2,I3,q2⟩) hf
 rcases l with⟨hk,hm⟩|⟨hk,c,hc,hcell⟩
 ·exact wpAny_loadName_local I.ok.kind hk hn hm go
 ·rcases hk with hk|hk
  ·exact wpAny_loadName_cell I.ok.kind hk hc hcell go
  ·rcases hx with k|k
   ·have:X.env.scope.names.lookup x=ae .free:=hk;rw[k]at this;cases this
   ·have:X.env.scope.names.lookup x=ae .free:=hk;rw[k]at this;cases this
def DD(f:Int->Int->Int):sA:=λx y H Q=>∃i j,x=.int i/\y=.int j/\Q (.int (f i j)) H
theorem Sk:IG X .Add (DD λi j=>i+j):=by
 intro pins s σ H x y v u Q I r1 r2 h;obtain⟨i,j,e1,e2,q⟩:=h;subst e1;subst e2;obtain⟨t,rfl⟩:=r1;obtain⟨t',rfl⟩:=r2;exact iadd_int ⟨.int _,H,I.tok _,⟨_,rfl⟩,q⟩
end
structure It where
 go:Nat->Hp->Prop
 yld:Nat->Hp->V->Hp->Prop
 stop:Nat->Hp->Prop
def du(X:Cx)(pins:List (Addr×Obj))(H:Hp)(b:Addr):Prop:=
 H b=af/\b≠X.env.locals/\b∉X.fs/\(b∈X.ex\/X.s₀.heap.objs.size<=b)/\(∀x c,X.env.cells.lookup x=ae c->c≠b)/\∀p∈X.pn++pins,p.1≠b
theorem Inv.fpOk{σ:St}{b:Addr}(I:Inv X pins σ H s)(hb:s.heap.objs.size<=b)(hn:H' b=af):du X pins H' b:=by
 refine⟨hn,Ef (By I.lt hb),I.nofs hb,.inr (A4 I.sz hb),λx c e z=>?_,λp hp z=>?_⟩
 ·obtain⟨v,q⟩:=I.cell x c e;exact absurd (By q.lt (by rw[z];exact hb)) (Fm _)
 ·exact absurd (By (A0 (I.pin p hp).1) (by rw[z];exact hb)) (Fm _)
structure Turn(P:Bs)(w:B5)(K:Ag)(tg:Expr)(J:It)(fp:List Addr)(it:Addr)(tn:Nat->Heap->Prop):Prop where
 mem:it∈fp
 obj:∀i h,tn i h->∀b∈fp,∃o,h.get? b=ae o/\∀v,o.data≠.cell v
 keep:∀i h h',tn i h->(∀b∈fp,∀o,h.get? b=ae o->h'.get? b=ae o)->tn i h'
 item:∀(X:Cx),X.prog=P->X.w=w->X.K=K->X.calm=ah->∀(i:Nat)(pins:List (Addr×Obj))(s:Ao)(σ:St)(H:Hp)(E:Aj->Ao->Prop),Inv X pins σ H s->(∀b∈fp,du X pins H b)->tn i s.heap->J.go i H->
  Bd (Bn P w) X.A (E5 (.ref it)) (λr s1=>∃u,r=ae u /\
   Bd (Bn P w) X.A (letOwnedTupleGo tg (.ref it) u) (λ_ s2=>∃x H',Inv X pins σ H' s2/\RelV x u/\J.yld i H x H'/\tn (i+1) s2.heap/\∀b∈fp,H' b=af) E s1) E s
 done:∀(X:Cx),X.prog=P->X.w=w->X.K=K->X.calm=ah->∀(i:Nat)(pins:List (Addr×Obj))(s:Ao)(σ:St)(H:Hp)(E:Aj->Ao->Prop),Inv X pins σ H s->(∀b∈fp,du X pins H b)->tn i s.heap->J.stop i H->
  Bd (Bn P w) X.A (E5 (.ref it)) (λr s1=>r=af/\Inv X pins σ H s1) E s
 self:∀(A:Cj)(i:Nat)(s:Ao)(Q:Aj->Ao->Prop)(E:Aj->Ao->Prop),tn i s.heap->Q (.ref it) s->Bd (Bn P w) A (pyIter (.ref it)) Q E s
abbrev TI:=St->Hp->(It->Hp->Prop)->Prop
def CC(X:Cx)(pins:List (Addr×Obj))(σ:St)(tg:Expr)(R:It->Hp->Prop)(itv:Aj)(s2:Ao):Prop:=
 ∃(it:Addr)(fp:List Addr)(tn:Nat->Heap->Prop)(J:It)(H':Hp),itv=.ref it/\Inv X pins σ H' s2/\Turn X.prog X.w X.K tg J fp it tn/\tn 0 s2.heap/\(∀b∈fp,du X pins H' b)/\R J H'
def PI(X:Cx)(tg iter:Expr)(wi:TI):Prop:=
 ∀(pins:List (Addr×Obj))(s:Ao)(σ:St)(H:Hp)(R:It->Hp->Prop),Inv X pins σ H s->wi σ H R->
  Bd (Bn X.prog X.w) X.A (eval iter X.env) (λv s1=>Bd (Bn X.prog X.w) X.A (pyIter v) (CC X pins σ tg R) X.xe s1) X.xe s
theorem pY(ho:s.heap.get? it=ae o)(hc:o.cls=.type n)(hd:o.data=.fields vs)
  (hn:["enumerate","zip","dict_itemiterator","dict_reverseitemiterator","odict_iterator","itertools.zip_longest","itertools.pairwise"].contains n=ai) (hQ:Q () s):Bd M A (letOwnedTupleGo tg (.ref it) u) Q E s:=by
 unfold letOwnedTupleGo;cases tg<;>first
  |exact Ap hQ
  | (cases u<;>first
    |exact Ap hQ
    | (refine Ad (wpAny_load ho ?_)
       rw[hc,hd];show Bd M A (if (["enumerate","zip","dict_itemiterator","dict_reverseitemiterator","odict_iterator","itertools.zip_longest","itertools.pairwise"].contains n&&vs[0]?==ae (De _))=ah then _ else _) Q E s;rw[if_neg (by intro h;rw[hn,E2]at h;cases h)];exact Ap hQ))
def Kr(K:Ag)(a:Addr):It:=
 ⟨λi H=>∃xs x,SqL K H a xs/\xs[i]?=ae x,λi H x H'=>H'=H/\∀xs,SqL K H a xs->xs[i]?=ae x,λi H=>∃xs,SqL K H a xs/\xs.length<=i⟩
def LC(K:Ag)(a:Addr):It:=
 ⟨λi H=>∃xs x,SqT K H a xs/\xs[i]?=ae x,λi H x H'=>H'=H/\∀xs,SqT K H a xs->xs[i]?=ae x,λi H=>∃xs,SqT K H a xs/\xs.length<=i⟩
def t9(lo:Int)(n:Nat):It:=⟨λi _=>i < n,λi H x H'=>H'=H/\x=.int (lo+i),λi _=>n<=i⟩
theorem Nx{K:Ag}(a it):Turn P w K tg (Kr K a) [it] it (λi h=>h.IsListIter it a i) where
 mem:=by simp
 obj:=λi h st b hb=>by
  have e:b=it:=by simpa using hb
  subst e;obtain⟨o,e,c,d⟩:=st;exact⟨o,e,λv z=>by rw[d]at z;cases z⟩
 keep:=λi h h' st k=>st.at λo e=>k it (by simp) o e
 item:=by
  intro X hP hw hK hc i pins s σ H E I hf st hg;subst hP hw hK;obtain⟨xs,x,hq,hx⟩:=hg;obtain⟨its,rv,p,hz⟩:=I.list hq;obtain⟨u,hu,ru⟩:=rv.get hx;obtain⟨f0,f1,f2,f3,f4,f5⟩:=hf it (by simp);refine wpAny_pyNext_list_item st p.isList (x:=u) (by simpa using hu) λh' st' sb=>?_;have I1:Inv X pins σ H {s with heap:=h'}:=I.turned (t':=s.toks) (λb o hb e=>(sb.2 b hb).trans e) f0 f1 f3 f4 f5;obtain⟨o,e,c,d⟩:=id st';exact⟨u,rfl,pY (s:={ s with heap:=h'}) e c d ∎ ⟨x,H,I1,ru,⟨rfl,λys hy=>by rw[I.list_inj hy hq];exact hx⟩,st',λb hb=>(hf b hb).1⟩⟩
 done:=by
  intro X hP hw hK hc i pins s σ H E I hf st hg;subst hP hw hK;obtain⟨xs,hq,hx⟩:=hg;obtain⟨its,rv,p,hz⟩:=I.list hq;obtain⟨f0,f1,f2,f3,f4,f5⟩:=hf it (by simp);have hl:=rv.length;exact wpAny_pyNext_list_end (I.ok.hd hc) st p.isList (by simp;omega) λh' eb=>⟨rfl,I.turned (t':=s.toks) (λb o hb e=>eb b o hb e) f0 f1 f3 f4 f5⟩
 self:=λ_ _ _ _ _ st h=>wpAny_pyIter_listiter st h
theorem UL{K:Ag}(a it):Turn P w K tg (LC K a) [it] it (λi h=>h.IsTupleIter it a i) where
 mem:=by simp
 obj:=λi h st b hb=>by
  have e:b=it:=by simpa using hb
  subst e;obtain⟨o,e,c,d⟩:=st;exact⟨o,e,λv z=>by rw[d]at z;cases z⟩
 keep:=λi h h' st k=>st.at λo e=>k it (by simp) o e
 item:=by
  intro X hP hw hK hc i pins s σ H E I hf st hg;subst hP hw hK;obtain⟨xs,x,hq,hx⟩:=hg;obtain⟨its,rv,p,hz⟩:=I.tuple hq;obtain⟨u,hu,ru⟩:=rv.get hx;obtain⟨f0,f1,f2,f3,f4,f5⟩:=hf it (by simp);refine wpAny_pyNext_tuple_item st (show s.heap.IsTuple a its.toArray from p) (x:=u) (by simpa using hu) λh' st' sb=>?_;have I1:Inv X pins σ H {s with heap:=h'}:=I.turned (t':=s.toks) (λb o hb e=>(sb.2 b hb).trans e) f0 f1 f3 f4 f5;obtain⟨o,e,c,d⟩:=id st';exact⟨u,rfl,pY (s:={ s with heap:=h'}) e c d ∎ ⟨x,H,I1,ru,⟨rfl,λys hy=>by rw[I.tuple_inj hy hq];exact hx⟩,st',λb hb=>(hf b hb).1⟩⟩
 done:=by
  intro X hP hw hK hc i pins s σ H E I hf st hg;subst hP hw hK;obtain⟨xs,hq,hx⟩:=hg;obtain⟨its,rv,p,hz⟩:=I.tuple hq;obtain⟨f0,f1,f2,f3,f4,f5⟩:=hf it (by simp);have hl:=rv.length;exact wpAny_pyNext_tuple_end (I.ok.hd hc) st (show s.heap.IsTuple a its.toArray from p) (by simp;omega) λh' eb=>⟨rfl,I.turned (t':=s.toks) (λb o hb e=>eb b o hb e) f0 f1 f3 f4 f5⟩
 self:=λ_ _ _ _ _ st h=>wpAny_pyIter_tupleiter st h
theorem RW{K:Ag}(it)(lo)(n):Turn P w K tg (t9 lo n) [it] it (λi h=>IsRangeIter h it (lo+(i:Nat)*1) ((n:Int)-(i:Nat)) 1) where
 mem:=by simp
 obj:=λi h st b hb=>by
  have e:b=it:=by simpa using hb
  subst e;exact⟨_,st,λv z=>by
   have z':Data.fields _=Data.cell v:=z;cases z'⟩
 keep:=λi h h' st k=>k it (by simp) _ st
 item:=by
  intro X hP hw hK hc i pins s σ H E I hf st hg;subst hP hw hK;obtain⟨f0,f1,f2,f3,f4,f5⟩:=hf it (by simp);have W:=Walks.range (prog:=X.prog) (w:=X.w) (I.ok.hd hc) it lo 1 n;refine W.item i s _ _ hg st λv h' tk hv st' kk=>?_;obtain⟨t,rfl⟩:=hv;have I1:Inv X pins σ H {s with heap:=h',toks:=tk}:=I.turned (λb o hb e=>kk b o (by simpa using hb) e) f0 f1 f3 f4 f5;refine⟨_,rfl,pY (s:={ s with heap:=h',toks:=tk}) (n:="range_iterator") st' rfl rfl ∎ ⟨.int (lo+i),H,I1,⟨t,?_⟩,⟨rfl,rfl⟩,st',λb hb=>(hf b hb).1⟩⟩;rw[Int.mul_one]
 done:=by
  intro X hP hw hK hc i pins s σ H E I hf st hg;subst hP hw hK;obtain⟨f0,f1,f2,f3,f4,f5⟩:=hf it (by simp);exact wpAny_pyNext_range_end (I.ok.hd hc) st (by have:n<=i:=hg;omega) λh' eb=>⟨rfl,I.turned (t':=s.toks) (λb o hb e=>eb b o hb e) f0 f1 f3 f4 f5⟩
 self:=λ_ _ _ _ _ st h=>wpAny_pyIter_rangeiter st h
section
variable{X:Cx}{tg:Expr}
def AW(K:Ag)(tl:TE):TI:=λσ H R=>tl σ H λx H1=>∃a,x=.ref a/\(∃xs,SqL K H1 a xs)/\R (Kr K a) H1
def mr(K:Ag)(tl:TE):TI:=λσ H R=>tl σ H λx H1=>∃a,x=.ref a/\(∃xs,SqT K H1 a xs)/\R (LC K a) H1
theorem QM(hl:PE X l tl):PI X tg l (AW X.K tl):=by
 intro pins s σ H R I h;refine bh (hl pins s σ H _ I h) λv s1 ⟨x,H1,I1,r1,q1⟩=>?_;obtain⟨a,e,⟨xs,hq⟩,q⟩:=q1;subst e;cases r1;obtain⟨its,rv,p,hz⟩:=I1.list hq;refine wpAny_pyIter_list p.isList ?_;refine⟨s1.heap.objs.size,[s1.heap.objs.size],_,_,H1,rfl,I1.kept (t':=s1.toks) λb o e=>Ai _ e,Nx a _,⟨_,Ba _ rfl,rfl,rfl⟩,λb hb=>?_,q⟩;have e:b=s1.heap.objs.size:=by simpa using hb
 subst e;exact I1.fpOk (Ay _) (I1.hok.fresh (Ay _))
theorem RA(hl:PE X l tl):PI X tg l (mr X.K tl):=by
 intro pins s σ H R I h;refine bh (hl pins s σ H _ I h) λv s1 ⟨x,H1,I1,r1,q1⟩=>?_;obtain⟨a,e,⟨xs,hq⟩,q⟩:=q1;subst e;cases r1;obtain⟨its,rv,p,hz⟩:=I1.tuple hq;refine Em (show s1.heap.IsTuple a its.toArray from p) ?_;refine⟨s1.heap.objs.size,[s1.heap.objs.size],_,_,H1,rfl,I1.kept (t':=s1.toks) λb o e=>Ai _ e,UL a _,⟨_,Ba _ rfl,rfl,rfl⟩,λb hb=>?_,q⟩;have e:b=s1.heap.objs.size:=by simpa using hb
 subst e;exact I1.fpOk (Ay _) (I1.hok.fresh (Ay _))
theorem QC{σ:St}{lo hi:Int}(I:Inv X pins σ H s)(h1:-(2 ^ 62)<=lo)(h2:lo < 2 ^ 62)(h3:-(2 ^ 62)<=hi)(h4:hi < 2 ^ 62)
  (q:R (t9 lo (hi-lo).toNat) H):Bd (Bn X.prog X.w) X.A (pyIter (.ref s.heap.objs.size)) (CC X pins σ tg R) E {s with heap:=s.heap.push {cls:=.type "range",data:=.fields #[.int lo t,.int hi u,.int 1 v]},toks:=tk}:=by
 refine wpAny_pyIter_range (IsRange.new ..) (small_one h1 h2 h3 h4) ?_;have I1:Inv X pins σ H {s with heap:=s.heap.push {cls:=.type "range",data:=.fields #[.int lo t,.int hi u,.int 1 v]},toks:=tk}:=I.kept λb o e=>Ai _ e;refine⟨(s.heap.push {cls:=.type "range",data:=.fields #[.int lo t,.int hi u,.int 1 v]}).objs.size,[(s.heap.push {cls:=.type "range",data:=.fields #[.int lo t,.int hi u,.int 1 v]}).objs.size],_,_,H,rfl,
  I1.kept (t':=tk) λb o e=>Ai _ e,RW _ lo (hi-lo).toNat,?_,λb hb=>?_,q⟩
 ·have e1:lo+((0:Nat):Int)*1=lo:=by simp
  have e2:(((hi-lo).toNat:Nat):Int)-((0:Nat):Int)=Builtin.Range.rangeSize lo hi 1:=by rw[rangeSize_one];split<;>omega
  show IsRangeIter _ _ (lo+((0:Nat):Int)*1) ((((hi-lo).toNat:Nat):Int)-((0:Nat):Int)) 1;rw[e1,e2];exact Ba _ rfl
 ·have e:b=(s.heap.push {cls:=.type "range",data:=.fields #[.int lo t,.int hi u,.int 1 v]}).objs.size:=by simpa using hb
  subst e;exact I1.fpOk (Ay _) (I1.hok.fresh (Ay _))
def J7(ta:TA):TI:=λσ H R=>ta σ H λvs H1=>∃j:Int,vs=[.int j]/\-(2 ^ 62)<=j/\j < 2 ^ 62/\R (t9 0 j.toNat) H1
theorem MB(hg:Gl X "range")(hm:X.mg "range"=af)(ha:PA X [a] ta)(hs:A8 [a] X.env=[(ai,eval a X.env)]:=by rfl):PI X tg (.Call (.Name "range" p) [a] [] pos) (J7 ta):=by
 intro pins s σ H R I h;refine Call_ (lR I hg hm boot_range (D3 (bh (ha pos pins s σ H _ I h) λus s1 ⟨vs,H1,I1,r1,q1⟩=>?_) hs rfl));obtain⟨j,e,q1,q2,q⟩:=q1;subst e;cases r1 with
 |cons r rr=>
  cases rr;obtain⟨t,rfl⟩:=r;exact call_range_1 (QC I1 ⋯ ⋯ q1 q2 (by simpa using q))
def j4(wi:TI)(g:TG)(tb:TS):TS:=λD σ H=>wi σ H λJ H1=>∃W:Nat->Nat->St->Hp->Prop,(∃m,W 0 m σ H1)/\∀i m σ H,W i m σ H->
 (J.stop i H/\D.nx σ H)\/(J.go i H/\∃N:St->Hp->Prop,(∀σ' H',N σ' H'->∃m',m' < m/\W (i+1) m' σ' H')/\∀x H',J.yld i H x H'->g x σ H' λσ2 H2=>tb {D with nx:=N,ct:=N,bk:=D.nx} σ2 H2)
def mR(fp:List Addr)(h:Heap):List (Addr×Obj):=fp.filterMap λb=>(h.get? b).map λo=>(b,o)
theorem mI(hb:b∈fp)(e:h.get? b=ae o):(b,o)∈mR fp h:=List.mem_filterMap.mpr ⟨b,hb,by rw[e];rfl⟩
theorem VP(hp:p∈mR fp h):p.1∈fp/\h.get? p.1=ae p.2:=by
 obtain⟨b,hb,e⟩:=List.mem_filterMap.mp hp;cases q:h.get? b with
 |none=>rw[q]at e;cases e
 |some o=>
  rw[q]at e;have e':(b,o)=p:=B3 e;subst e';exact⟨hb,q⟩
theorem Inv.pinned{σ:St}(I:Inv X pins σ H s)(hf:∀b∈fp,du X pins H b)(ho:∀b∈fp,∃o,s.heap.get? b=ae o/\∀v,o.data≠.cell v):Inv X (pins++mR fp s.heap) σ H s:=
 I.pins_of λp hp=>(Ax.mp hp).elim (λz=>I.pin p (Az _ z)) λz=>by
  obtain⟨hb,e⟩:=VP z;obtain⟨f0,f1,f2,_⟩:=hf p.1 hb;obtain⟨o,e',d⟩:=ho p.1 hb;rw[e]at e';cases e';exact⟨e,f0,f1,f2,d⟩
theorem Inv.unpinned{σ:St}(I:Inv X (pins++pl) σ H s):Inv X pins σ H s:=I.pins_of λp hp=>I.pin p (Az _ (Bx _ hp))
theorem EU(hp:PassesOwn (Bn X.prog X.w) X.A X.env X.xe)(hc:X.calm=ah)(hi:PI X tg iter wi)(hg:PG X tg g)(hb:PSs X body tb)
  (hs:∀x,Ex iter X.env x=pure x:=by intro _;rfl):PS X (.For tg iter body [] pos) (j4 wi g tb):=by
 intro pins s σ H D I h;refine wpAny_For (bh (hi pins s σ H _ I h) λv s1 h1=>bh h1 λitv s2 h2=>?_) hs;obtain⟨it,fp,tn,J,H2,e,I2,T,st2,f2,W,⟨m0,w0⟩,turn⟩:=h2;subst e
 have stat:∀{H':Hp},(∀b∈fp,H' b=af)->∀b∈fp,du X pins H' b:=λhn b hb=>⟨hn b hb,(f2 b hb).2⟩;refine codeAny_forLoop_any (λn s'=>∃i σ' H',Inv X pins σ' H' s'/\tn i s'.heap/\(∀b∈fp,H' b=af)/\W i n σ' H') ?_ m0 ⟨0,σ,H2,I2,st2,λb hb=>(f2 b hb).1,w0⟩
 rintro n s3 ⟨i,σ3,H3,I3,st3,fr3,w3⟩
 rcases turn i n σ3 H3 w3 with⟨stop,qn⟩|⟨go,N,hN,step⟩
 ·refine G3 hp (bh (T.done X rfl rfl rfl hc i pins s3 σ3 H3 X.xe I3 (stat fr3) st3 stop) λr s4 ⟨hr,I4⟩=>?_);subst hr;exact wpAny_execs_nil ⟨σ3,H3,I4,qn⟩
 ·refine G3 hp (bh (T.item X rfl rfl rfl hc i pins s3 σ3 H3 X.xe I3 (stat fr3) st3 go) λr s4 ⟨u,hr,h4⟩=>?_);subst hr;refine G3 hp (bh h4 λ_ s5 ⟨x,H5,I5,r5,y5,st5,fr5⟩=>?_);have I5':=I5.pinned (stat fr5) (T.obj _ _ st5);refine G3 hp (bh (hg _ s5 σ3 H5 x u _ I5' r5 (step x H5 y5)) λ_ s6 ⟨σ6,H6,I6,q6⟩=>?_);refine G3 hp (bh (hb _ s6 σ6 H6 _ I6 q6) λf s7 q7=>?_);have again:∀{σ7:St}{H7:Hp},Inv X (pins++mR fp s5.heap) σ7 H7 s7->N σ7 H7->∃m,m < n/\∃i σ' H',Inv X pins σ' H' s7/\tn i s7.heap/\(∀b∈fp,H' b=af)/\W i m σ' H':=λ{σ7 H7} I7 n7=>by
   obtain⟨m',hm,w7⟩:=hN σ7 H7 n7;refine⟨m',hm,i+1,σ7,H7,I7.unpinned,T.keep _ _ _ st5 λb hb o e=>(I7.pin (b,o) (Az _ (Az _ (mI hb e)))).1,λb hb=>?_,w7⟩;obtain⟨o,e,d⟩:=T.obj _ _ st5 b hb;exact(I7.pin (b,o) (Az _ (Az _ (mI hb e)))).2.1
  cases f with
  |next=>obtain⟨σ7,H7,I7,n7⟩:=q7;exact again I7 n7
  |cont=>obtain⟨σ7,H7,I7,n7⟩:=q7;exact again I7 n7
  |brk=>obtain⟨σ7,H7,I7,q7⟩:=q7;exact⟨σ7,H7,I7.unpinned,q7⟩
  |ret v=>obtain⟨x7,σ7,H7,I7,r7,q7⟩:=q7;exact⟨x7,σ7,H7,I7.unpinned,r7,q7⟩
end
abbrev R2:=V->V->Hp->VK->Prop
def OpR(X:Cx)(f:Aj->Aj->Sem Aj)(r:R2):Prop:=
 ∀(pins:List (Addr×Obj))(s:Ao)(σ:St)(H:Hp)(x y:V)(v u:Aj)(Q:VK),Inv X pins σ H s->RelV x v->RelV y u->r x y H Q->
  Bd (Bn X.prog X.w) X.A (f v u) (EP X pins σ Q) X.xe s
def w8(X:Cx)(f:Aj->Sem Aj)(r:V->Hp->VK->Prop):Prop:=
 ∀(pins:List (Addr×Obj))(s:Ao)(σ:St)(H:Hp)(x:V)(v:Aj)(Q:VK),Inv X pins σ H s->RelV x v->r x H Q->
  Bd (Bn X.prog X.w) X.A (f v) (EP X pins σ Q) X.xe s
def CallR(X:Cx)(f:Aj)(r:List V->Hp->VK->Prop):Prop:=
 ∀(pins:List (Addr×Obj))(s:Ao)(σ:St)(H:Hp)(xs:List V)(us:List Aj)(Q:VK),Inv X pins σ H s->Vals xs us->r xs H Q->
  Bd (Bn X.prog X.w) X.A (call f us) (EP X pins σ Q) X.xe s
def d3(r:R2)(ta tb:TE):TE:=λσ H Q=>ta σ H λx H1=>tb σ H1 λy H2=>r x y H2 Q
def Kn(r:V->Hp->VK->Prop)(ta:TE):TE:=λσ H Q=>ta σ H λx H1=>r x H1 Q
def rI(C:Int->Int->Prop)(g:Int->Int->V):R2:=λx y H Q=>∃i j,x=.int i/\y=.int j/\C i j/\Q (g i j) H
def gg(g:Int->Int->V):R2:=λx y H Q=>∃i j,x=.int i/\y=.int j/\Q (g i j) H
def rU(g:Int->V):V->Hp->VK->Prop:=λx H Q=>∃i,x=.int i/\Q (g i) H
section
variable{X:Cx}{a b c:Expr}{ta tb tc:TE}{pos:Pos}
theorem ma(ha:PE X a ta)(hb:PE X b tb){σ:St}{R:V->V->Hp->Prop}(I:Inv X pins σ H s)
  (h:ta σ H λx H1=>tb σ H1 λy H2=>R x y H2)  {f:Aj->Aj->Sem Aj}
  (hf:∀v u s2 x y H2,Inv X pins σ H2 s2->RelV x v->RelV y u->R x y H2->Bd (Bn X.prog X.w) X.A (f v u) Q X.xe s2):
  Bd (Bn X.prog X.w) X.A (eval a X.env) (λv s₁=>Bd (Bn X.prog X.w) X.A (eval b X.env) (λu s₂=>Bd (Bn X.prog X.w) X.A (f v u) Q X.xe s₂) X.xe s₁) X.xe s:=by
 refine bh (ha pins s σ H _ I h) λv s1 ⟨x,H1,I1,r1,q1⟩=>?_;refine bh (hb pins s1 σ H1 _ I1 q1) λu s2 ⟨y,H2,I2,r2,q2⟩=>?_;exact hf v u s2 x y H2 I2 r1 r2 q2
theorem eO(ho:OpR X (Fd op) r)(ha:PE X a ta)(hb:PE X b tb):PE X (.BinOp a op b pos) (d3 r ta tb):=by
 intro pins s σ H Q I h;exact wpAny_BinOp (ma ha hb I h λv u s2 x y H2 I2 rx ry q=>ho pins s2 σ H2 x y v u Q I2 rx ry q)
theorem tu(ho:w8 X (unaryOp op) r)(ha:PE X a ta):PE X (.UnaryOp op a pos) (Kn r ta):=by
 intro pins s σ H Q I h;exact UnaryOp_ (bh (ha pins s σ H _ I h) λv s1 ⟨x,H1,I1,r1,q1⟩=>ho pins s1 σ H1 x v Q I1 r1 q1)
theorem sH{g:Int->Int->Int}
  (rule:∀(i j:Int)(t u:Tok)(s:Ao)(Q:Aj->Ao->Prop)(E:Aj->Ao->Prop),C i j->Q (.int (g i j) s.toks) {s with toks:=s.toks+1}->Bd (Bn X.prog X.w) X.A (f (.int i t) (.int j u)) Q E s):
  OpR X f (rI C λi j=>.int (g i j)):=by
 intro pins s σ H x y v u Q I rx ry h;obtain⟨i,j,rfl,rfl,hc,q⟩:=h;obtain⟨t,rfl⟩:=rx;obtain⟨t',rfl⟩:=ry;exact rule i j t t' s _ _ hc ⟨.int (g i j),H,I.tok _,⟨_,rfl⟩,q⟩
theorem qH{g:Int->Int->Int}
  (rule:∀(i j:Int)(t u:Tok)(s:Ao)(Q:Aj->Ao->Prop)(E:Aj->Ao->Prop),Q (.int (g i j) s.toks) {s with toks:=s.toks+1}->Bd (Bn X.prog X.w) X.A (f (.int i t) (.int j u)) Q E s):
  OpR X f (gg λi j=>.int (g i j)):=by
 intro pins s σ H x y v u Q I rx ry h;obtain⟨i,j,rfl,rfl,q⟩:=h;obtain⟨t,rfl⟩:=rx;obtain⟨t',rfl⟩:=ry;exact rule i j t t' s _ _ ⟨.int (g i j),H,I.tok _,⟨_,rfl⟩,q⟩
theorem kr{g:Int->Int->Bool}
  (rule:∀(i j:Int)(t u:Tok)(s:Ao)(Q:Aj->Ao->Prop)(E:Aj->Ao->Prop),Q (.bool (g i j)) s->Bd (Bn X.prog X.w) X.A (f (.int i t) (.int j u)) Q E s):
  OpR X f (gg λi j=>.bl (g i j)):=by
 intro pins s σ H x y v u Q I rx ry h;obtain⟨i,j,rfl,rfl,q⟩:=h;obtain⟨t,rfl⟩:=rx;obtain⟨t',rfl⟩:=ry;exact rule i j t t' s _ _ ⟨.bl (g i j),H,I,rfl,q⟩
def BH(i j:Int):Prop:=0 < j/\j < 1073741824
def yZ(i j:Int):Prop:=0<=j/\j<=1000000/\i.natAbs < 2 ^ 64
def CMul(i j:Int):Prop:=(-(2 ^ 64) < i/\i < 2 ^ 64)\/(-(2 ^ 64) < j/\j < 2 ^ 64)
theorem CMul.ok(h:CMul i j):IntMulOk i j:=by
 rcases h with⟨h1,h2⟩|⟨h1,h2⟩
 ·exact .of_left (intBits_le_64 h1 h2)
 ·exact .of_right (intBits_le_64 h1 h2)
theorem op_add:OpR X (Fd .Add) (gg λi j=>.int (i+j)):=qH λ_ _ _ _ _ _ _ q=>add_int q
theorem NJ:OpR X (Fd .Sub) (gg λi j=>.int (i-j)):=qH λ_ _ _ _ _ _ _ q=>sub_int q
theorem mO:OpR X (Fd .Mult) (rI CMul λi j=>.int (i*j)):=sH λ_ _ _ _ _ _ _ hc q=>mul_int q hc.ok
theorem KN:OpR X (Fd .FloorDiv) (rI BH λi j=>.int (i / j)):=sH λi j _ _ _ _ _ hc q=>by
 have h1:(0:Int) < j:=hc.1;have h2:j < 1073741824:=hc.2;exact floordiv_int ⋯ (by rw[Int.fdiv_eq_ediv_of_nonneg i ⋯];exact q) (.inl (PyProof.noPylong_small ⋯))
theorem lg:OpR X (Fd .Mod) (rI (λ_ j=>0 < j) λi j=>.int (i % j)):=sH λi j _ _ _ _ _ hc q=>by
 have h1:(0:Int) < j:=hc;exact mod_int' ⋯ (by rw[Int.fmod_eq_emod_of_nonneg i ⋯];exact q)
theorem NH:OpR X (Fd .Pow) (rI yZ λi j=>.int (i ^ j.toNat)):=sH λ_ _ _ _ _ _ _ hc q=>pow_int_small hc.1 hc.2.1 hc.2.2 q
theorem NO{g:Int->Int}
  (rule:∀(i:Int)(t:Tok)(s:Ao)(Q:Aj->Ao->Prop)(E:Aj->Ao->Prop),Q (.int (g i) s.toks) {s with toks:=s.toks+1}->Bd (Bn X.prog X.w) X.A (f (.int i t)) Q E s):
  w8 X f (rU λi=>.int (g i)):=by
 intro pins s σ H x v Q I rx h;obtain⟨i,rfl,q⟩:=h;obtain⟨t,rfl⟩:=rx;exact rule i t s _ _ ⟨.int (g i),H,I.tok _,⟨_,rfl⟩,q⟩
theorem uf:w8 X (unaryOp .USub) (rU λi=>.int (-i)):=NO λ_ _ _ _ _ q=>neg_int q
end
def p6:V->V->Bool
 |.non,.non=>ah|.non,.int _=>ah|.int _,.non=>ah|.non,.bl _=>ah|.bl _,.non=>ah|.non,.str _=>ah|.str _,.non=>ah
 |.int _,.int _=>ah|.bl _,.bl _=>ah|.str _,.str _=>ah|.byt _,.byt _=>ah
 |.int _,.str _=>ah|.str _,.int _=>ah|.bl _,.str _=>ah|.str _,.bl _=>ah
 |_,_=>ai
def tY:R2:=λx y H Q=>p6 x y=ah/\Q (.bl (decide (x=y))) H
def IH:R2:=λx y H Q=>p6 x y=ah/\Q (.bl (!decide (x=y))) H
theorem DV:decide (V.int i=V.int j)=(i==j):=by
 rw[Fj];simp
theorem JZ:decide (V.bl i=V.bl j)=(i==j):=by
 rw[Fj];simp
theorem IQ:decide (V.str i=V.str j)=(i==j):=by
 rw[Fj];simp
theorem Jf:decide (V.byt i=V.byt j)=(i.toList==j.toList):=by
 rw[Fj];cases i;cases j;simp
section
variable{X:Cx}{a b c:Expr}{ta tb tc:TE}{pos:Pos}
theorem cS{σ:St}(I:Inv X pins σ H s)(q:Q (.bl k) H)(e:k=k'):EP X pins σ Q (.bool k') s:=by
 subst e;exact⟨.bl k,H,I,rfl,q⟩
theorem op_eq:OpR X (B4 .Eq) tY:=by
 intro pins s σ H x y v u Q I rx ry h;obtain⟨hs,q⟩:=h;cases x with
 |non=>
  cases rx;cases y with
  |non=>cases ry;exact PySem.EqNone.eq_none_none (cS I q (by simp))
  |bl j=>cases ry;exact PySem.EqNone.eq_none_bool (cS I q (by simp))
  |int j=>obtain⟨t',rfl⟩:=ry;exact PySem.EqNone.eq_none_int (cS I q (by simp))
  |str j=>obtain⟨t',rfl⟩:=ry;exact PySem.EqNone.eq_none_str (cS I q (by simp))
  |_=>exact absurd (show ai=ah from hs) Al
 |bl i=>
  cases rx;cases y with
  |non=>cases ry;exact PySem.EqNone.eq_bool_none (cS I q (by simp))
  |bl j=>cases ry;exact eq_bool (cS I q JZ)
  |str j=>obtain⟨t',rfl⟩:=ry;exact PySem.EqMixed.eq_bool_str (cS I q (by simp))
  |_=>exact absurd (show ai=ah from hs) Al
 |int i=>
  obtain⟨t,rfl⟩:=rx;cases y with
  |non=>cases ry;exact PySem.EqNone.eq_int_none (cS I q (by simp))
  |int j=>obtain⟨t',rfl⟩:=ry;exact eq_int (cS I q DV)
  |str j=>obtain⟨t',rfl⟩:=ry;exact PySem.EqMixed.eq_int_str (cS I q (by simp))
  |_=>exact absurd (show ai=ah from hs) Al
 |str i=>
  obtain⟨t,rfl⟩:=rx;cases y with
  |non=>cases ry;exact PySem.EqNone.eq_str_none (cS I q (by simp))
  |bl j=>cases ry;exact PySem.EqMixed.eq_str_bool (cS I q (by simp))
  |int j=>obtain⟨t',rfl⟩:=ry;exact PySem.EqMixed.eq_str_int (cS I q (by simp))
  |str j=>obtain⟨t',rfl⟩:=ry;exact eq_str (cS I q IQ)
  |_=>exact absurd (show ai=ah from hs) Al
 |byt i=>
  obtain⟨t,rfl⟩:=rx;cases y with
  |byt j=>obtain⟨t',rfl⟩:=ry;exact PySem.W.eq_bytes (cS I q Jf)
  |_=>exact absurd (show ai=ah from hs) Al
 |_=>cases y<;>exact absurd (show ai=ah from hs) Al
theorem Hx:OpR X (B4 .NotEq) IH:=by
 intro pins s σ H x y v u Q I rx ry h;obtain⟨hs,q⟩:=h;cases x with
 |non=>
  cases rx;cases y with
  |non=>cases ry;exact PySem.EqNone.ne_none_none (cS I q (by simp))
  |bl j=>cases ry;exact PySem.EqNone.ne_none_bool (cS I q (by simp))
  |int j=>obtain⟨t',rfl⟩:=ry;exact PySem.EqNone.ne_none_int (cS I q (by simp))
  |str j=>obtain⟨t',rfl⟩:=ry;exact PySem.EqNone.ne_none_str (cS I q (by simp))
  |_=>exact absurd (show ai=ah from hs) Al
 |bl i=>
  cases rx;cases y with
  |non=>cases ry;exact PySem.EqNone.ne_bool_none (cS I q (by simp))
  |bl j=>cases ry;exact ne_bool (cS I q (congrArg not JZ))
  |str j=>obtain⟨t',rfl⟩:=ry;exact PySem.EqMixed.ne_bool_str (cS I q (by simp))
  |_=>exact absurd (show ai=ah from hs) Al
 |int i=>
  obtain⟨t,rfl⟩:=rx;cases y with
  |non=>cases ry;exact PySem.EqNone.ne_int_none (cS I q (by simp))
  |int j=>obtain⟨t',rfl⟩:=ry;exact ne_int (cS I q (congrArg not DV))
  |str j=>obtain⟨t',rfl⟩:=ry;exact PySem.EqMixed.ne_int_str (cS I q (by simp))
  |_=>exact absurd (show ai=ah from hs) Al
 |str i=>
  obtain⟨t,rfl⟩:=rx;cases y with
  |non=>cases ry;exact PySem.EqNone.ne_str_none (cS I q (by simp))
  |bl j=>cases ry;exact PySem.EqMixed.ne_str_bool (cS I q (by simp))
  |int j=>obtain⟨t',rfl⟩:=ry;exact PySem.EqMixed.ne_str_int (cS I q (by simp))
  |str j=>obtain⟨t',rfl⟩:=ry;exact ne_str (cS I q (congrArg not IQ))
  |_=>exact absurd (show ai=ah from hs) Al
 |byt i=>
  obtain⟨t,rfl⟩:=rx;cases y with
  |byt j=>obtain⟨t',rfl⟩:=ry;exact PySem.W.ne_bytes (cS I q (congrArg not Jf))
  |_=>exact absurd (show ai=ah from hs) Al
 |_=>cases y<;>exact absurd (show ai=ah from hs) Al
theorem op_lt:OpR X (B4 .Lt) (gg λi j=>.bl (decide (i < j))):=kr λ_ _ _ _ _ _ _ q=>lt_int q
theorem op_le:OpR X (B4 .LtE) (gg λi j=>.bl (decide (i<=j))):=kr λ_ _ _ _ _ _ _ q=>le_int q
theorem op_gt:OpR X (B4 .Gt) (gg λi j=>.bl (decide (j < i))):=kr λ_ _ _ _ _ _ _ q=>gt_int q
theorem op_ge:OpR X (B4 .GtE) (gg λi j=>.bl (decide (j<=i))):=kr λ_ _ _ _ _ _ _ q=>ge_int q
theorem Mi:OpR X (B4 .Lt) (λx y H Q=>∃i j,x=.str i/\y=.str j/\Q (.bl (decide (i.cps.toList < j.cps.toList))) H):=by
 intro pins s σ H x y v u Q I rx ry h;obtain⟨i,j,rfl,rfl,q⟩:=h;obtain⟨t,rfl⟩:=rx;obtain⟨t',rfl⟩:=ry;exact lt_str (cS I q rfl)
theorem J6:OpR X (B4 .Is) (λx y H Q=>y=.non/\Q (.bl (decide (x=.non))) H):=by
 intro pins s σ H x y v u Q I rx ry h;obtain⟨rfl,q⟩:=h;cases ry;refine is_none_gen (cS I q ?_);cases x<;>first
  | (cases rx;rfl)
  | (obtain⟨t,rfl⟩:=rx;rfl)
theorem LS:OpR X (B4 .IsNot) (λx y H Q=>y=.non/\Q (.bl (!decide (x=.non))) H):=by
 intro pins s σ H x y v u Q I rx ry h;obtain⟨rfl,q⟩:=h;cases ry;refine isnot_none_gen (cS I q ?_);cases x<;>first
  | (cases rx;rfl)
  | (obtain⟨t,rfl⟩:=rx;rfl)
theorem OpR.or(h:OpR X f r)(h':OpR X f r'):OpR X f (λx y H Q=>r x y H Q\/r' x y H Q):=by
 intro pins s σ H x y v u Q I rx ry q;rcases q with q|q
 ·exact h pins s σ H x y v u Q I rx ry q
 ·exact h' pins s σ H x y v u Q I rx ry q
theorem kJ(b)(h:op≠.In:=by decide)(h2:op≠.NotIn:=by decide):Dw op b=ai:=by
 have e1:(op==CmpOp.In)=ai:=by cases op<;>first|rfl|exact absurd rfl h
 have e2:(op==CmpOp.NotIn)=ai:=by cases op<;>first|rfl|exact absurd rfl h2
 cases b<;>simp[Dw,e1,e2]
theorem JQ(ho:OpR X (B4 op) r)(ha:PE X a ta)(hb:PE X b tb)(hm:Dw op b=ai):PE X (.Compare a [op] [b] pos) (d3 r ta tb):=by
 intro pins s σ H Q I h;exact wpAny_Compare1 (ma ha hb I h λv u s2 x y H2 I2 rx ry q=>ho pins s2 σ H2 x y v u Q I2 rx ry q) hm
def kM(t:TE):TT:=λσ H Q=>t σ H λx H'=>∃k,x=.bl k/\Q k H'
theorem jx(ho:OpR X (B4 op) r)(ha:PE X a ta)(hb:PE X b tb)(hm:Dw op b=ai):PT X (.Compare a [op] [b] pos) (kM (d3 r ta tb)):=by
 intro pins s σ H Q I h;refine wpAny_isTrue_Compare1 (bh (ha pins s σ H _ I h) λv s1 ⟨x,H1,I1,r1,q1⟩=>bh (hb pins s1 σ H1 _ I1 q1) λu s2 ⟨y,H2,I2,r2,q2⟩=>
  bh (ho pins s2 σ H2 x y v u _ I2 r1 r2 q2) λc s3 ⟨z,H3,I3,r3,k,e,q3⟩=>?_) hm
 subst e;cases r3;exact Di ⟨H3,I3,q3⟩
def pP(r r':R2)(ta tb tc:TE):TE:=λσ H Q=>ta σ H λx H1=>tb σ H1 λy H2=>r x y H2 λz H3=>∃k,z=.bl k /\
 (if k=ah then tc σ H3 λw' H4=>r' y w' H4 Q else Q (.bl ai) H3)
theorem UO(ho:OpR X (B4 op) r)(ho':OpR X (B4 op') r')(ha:PE X a ta)(hb:PE X b tb)(hc:PE X c tc)
  (hm:lastMarks [op,op'] [b,c]=ai:=by with_unfolding_all rfl):PE X (.Compare a [op,op'] [b,c] pos) (pP r r' ta tb tc):=by
 intro pins s σ H Q I h;refine Compare_chain (bh (ha pins s σ H _ I h) λv s1 ⟨x,H1,I1,r1,q1⟩=>chain_link (bh (hb pins s1 σ H1 _ I1 q1) λu s2 ⟨y,H2,I2,r2,q2⟩=>
  bh (ho pins s2 σ H2 x y v u _ I2 r1 r2 q2) λd s3 ⟨z,H3,I3,r3,k,e,q3⟩=>?_)) hm
 subst e;cases r3;refine Di ?_;cases k with
 |false=>exact ite_ff ⟨.bl ai,H3,I3,rfl,q3⟩
 |true=>exact ite_tt (chain_last (bh (hc pins s3 σ H3 _ I3 q3) λw' s4 ⟨z',H4,I4,r4,q4⟩=>ho' pins s4 σ H4 y z' u w' Q I4 r2 r4 q4))
theorem OD(ho:OpR X (B4 op) r)(ho':OpR X (B4 op') r')(ha:PE X a ta)(hb:PE X b tb)(hc:PE X c tc)
  (hm:lastMarks [op,op'] [b,c]=ai:=by with_unfolding_all rfl):PT X (.Compare a [op,op'] [b,c] pos) (kM (pP r r' ta tb tc)):=by
 intro pins s σ H Q I h;refine isTrue_chain (bh (ha pins s σ H _ I h) λv s1 ⟨x,H1,I1,r1,q1⟩=>test_link (bh (hb pins s1 σ H1 _ I1 q1) λu s2 ⟨y,H2,I2,r2,q2⟩=>
  bh (ho pins s2 σ H2 x y v u _ I2 r1 r2 q2) λd s3 ⟨z,H3,I3,r3,k,e,q3⟩=>?_)) hm
 subst e;cases r3;refine Di ?_;cases k with
 |false=>
  obtain⟨k',e',q'⟩:=q3;cases e';exact ite_ff ⟨H3,I3,q'⟩
 |true=>
  refine ite_tt (test_last (bh (hc pins s3 σ H3 _ I3 q3) λw' s4 ⟨z',H4,I4,r4,q4⟩=>bh (ho' pins s4 σ H4 y z' u w' _ I4 r2 r4 q4) λd' s5 ⟨z2,H5,I5,r5,k2,e2,q5⟩=>?_));subst e2;cases r5;exact Di ⟨H5,I5,q5⟩
theorem nO:(A6:Nat) < 2 ^ 63:=by rw[Eu];decide
theorem op_add_str:OpR X (Fd .Add) (λx y H Q=>∃i j,x=.str i/\y=.str j/\i.length+j.length<=A6/\Q (.str (i++j)) H):=by
 intro pins s σ H x y v u Q I rx ry h;obtain⟨i,j,rfl,rfl,hz,q⟩:=h;obtain⟨t,rfl⟩:=rx;obtain⟨t',rfl⟩:=ry;exact add_str (λt' tk=>⟨.str (i++j),H,I.tok _,⟨_,rfl⟩,q⟩) hz
theorem i5(r:Vals [x] us):∃u,us=[u]/\RelV x u:=by
 cases r with
 |cons r1 r2=>cases r2;exact⟨_,rfl,r1⟩
theorem OW(r:Vals [x,y] us):∃u w',us=[u,w']/\RelV x u/\RelV y w':=by
 cases r with
 |cons r1 r2=>
  cases r2 with
  |cons r3 r4=>cases r4;exact⟨_,_,rfl,r1,r3⟩
theorem QP:CallR X (.type "str") (λxs H Q=>∃i,xs=[.int i]/\i.natAbs.log2 < 1920/\Q (.str (C4 i)) H):=by
 intro pins s σ H xs us Q I r h;obtain⟨i,rfl,hz,q⟩:=h;obtain⟨u,rfl,t,rfl⟩:=i5 r;exact PySem.P.str_of_int hz ⟨.str _,H,I.tok _,⟨_,rfl⟩,q⟩
end
structure ObjM(h:Heap)(x dx C:Addr)(mA:Str->Option Aj):Prop where
 obj:h.get? x=ae (PySem.W.instObj C dx)
 ns:h.Ns1 dx mA
 ne:dx≠x
theorem Pr{h:Heap}(n:h.Ns1 dx mA):∃od,h.get? dx=ae od/\∀name,PySem.W.lookIn name od=ae (mA name):=by
 obtain⟨o,es,ep,ho,hd,hk,_,hm⟩:=n;refine⟨o,ho,λname=>?_⟩;have e:=hm name;unfold nsFind findBy at e;rw[<-Array.find?_toList]at e;unfold PySem.W.lookIn;rw[hd];dsimp only
 split
 ·rename_i y q;rw[q]at e;exact congrArg ae e
 ·rename_i q;rw[q]at e;have a:es.toList.any (·.refKey)=ai:=by
   rw[List.any_eq_false];intro y hy;obtain⟨z,t,hkey⟩:=hk y (Array.mem_toList_iff.mp hy);simp[DictEntry.refKey,hkey]
  have a':¬es.toList.any (·.refKey)=ah:=by rw[a];exact Al
  rw[if_neg a'];exact congrArg ae e
theorem ObjM.look(I:ObjM h x dx C mA):∃od,PySem.W.InstAt h x (PySem.W.instObj C dx) C (ae od)/\∀name,PySem.W.lookIn name od=ae (mA name):=
 let⟨od,ho,hl⟩:=Pr I.ns
 ⟨od,⟨I.obj,rfl,rfl,ho⟩,hl⟩
theorem RelO.some_of(r:RelO (ae v) o):∃u,o=ae u/\RelV v u:=by
 cases o with
 |none=>exact(show False from r).elim
 |some u=>exact⟨u,rfl,r⟩
section
variable{P:Bs}{w:B5}{H H':Hp}{h h':Heap}{a C dx:Addr}{fs fs':List (Str×V)}
theorem WB(hok:HOk P w H h)(e:H a=ae (.ins C dx fs)):∃mA,ObjM h a dx C mA/\(∀f,RelO (fs.lookup f) (mA f))/\PySem.Within mA (fs.map (·.1))/\fs.length<=1000/\H dx=ae (.own a):=by
 obtain⟨d,z,ne,ob,mA,n,r,q⟩:=(show ObjOk P w H h a (.ins C dx fs)from hok a _ e);exact⟨mA,⟨ob,n,ne⟩,r,q,z,d⟩
end
structure Cls(K:Ag)(C:Addr):Prop where
 pg:PySem.W.plainGet K C Str.empty=ah
 hd:PySem.W.hasDictIn K C=ah
 po:PySem.W.plainOver K C=ah
 sa:PySem.W.findIn K (.ref C) "__setattr__"=ae (ae (.builtin "object.__setattr__"))
theorem Cls.get{K:Ag}(c:Cls K C)(f):PySem.W.plainGet K C f=ah:=c.pg
section
variable{X:Cx}{pins:List (Addr×Obj)}{σ:St}{H:Hp}{s:Ao}{A:Cj}{E:Aj->Ao->Prop}{Q:Aj->Ao->Prop}{c:Aj}{b:Bool}
inductive TyOf(K:Ag)(H:Hp):V->Aj->Prop where
 |non:TyOf K H .non (.type "NoneType")
 |bl (x:Bool):TyOf K H (.bl x) (.type "bool")
 |int (i:Int):TyOf K H (.int i) (.type "int")
 |str (x:Str):TyOf K H (.str x) (.type "str")
 |flt (x:UInt64):TyOf K H (.flt x) (.type "float")
 |lst {a:Addr} {xs:List V} (e:H a=ae (.lst xs)):TyOf K H (.ref a) (.type "list")
 |frz {a:Addr} {o:Obj} {xs:List V} (e:H a=ae (.frz o (.lst xs))):TyOf K H (.ref a) (.type "list")
 |tup {a:Addr} {xs:List V} (e:H a=ae (.tup xs)):TyOf K H (.ref a) (.type "tuple")
 |dK {a:Addr} {kvs:List (bg×V)} (e:H a=ae (.dK kvs)):TyOf K H (.ref a) (.type "dict")
 |dT {a:Addr} {kvs:List (List bg×V)} (e:H a=ae (.dT kvs)):TyOf K H (.ref a) (.type "dict")
 |ins {a C dx:Addr} {fs:List (Str×V)} (e:H a=ae (.ins C dx fs)) (cl:Cls K C) (ha:PySem.W.findIn K (.ref C) "__class__"=ae (ae (.builtin "object.__class__")))
   (hn:PySem.W.specialIn K (.builtin "object.__class__") "__get__"=ae (ae (.builtin "getset_descriptor.__get__"))) (htk:PySem.W.takesIn K (.builtin "object.__class__")=ae ah)
   (hm:PySem.W.mroIn K C (.type "object")=ae ah):TyOf K H (.ref a) (.ref C)
theorem NM(I:Inv X pins σ H s)(rx:RelV x u)(ty:TyOf X.K H x t)(e:PySem.W.kitOne X.K t c=ae b)(h:∀tk,Q (.bool b) {s with toks:=tk}):
  Bd (Bn X.prog X.w) A (call (.builtin "isinstance") [u,c]) Q E s:=by
 cases ty with
 |non=>cases(show u=B1 from rx);exact Dg PySem.W.kitx_none I.kIn Gc e (λz=>nomatch z) h
 |bl y=>cases(show u=Value.bool y from rx);exact Dg PySem.W.kitx_bool I.kIn Gc e (λz=>nomatch z) h
 |int i=>obtain⟨t,q⟩:=(show ∃t,u=Value.int i t from rx);cases q;exact Dg PySem.W.kitx_int I.kIn Gc e (λz=>nomatch z) h
 |str y=>obtain⟨t,q⟩:=(show ∃t,u=D7 y t from rx);cases q;exact Dg PySem.W.kitx_str I.kIn Gc e (λz=>nomatch z) h
 |flt y=>obtain⟨t,q⟩:=(show ∃t,u=Value.float y t from rx);cases q;exact Dg PySem.W.kitx_float I.kIn Gc e (λz=>nomatch z) h
 |@lst a xs ea=>
  cases(show u=B8 a from rx);obtain⟨_,_,n,_,h1⟩:=(show ObjOk X.prog X.w H s.heap a (.lst xs)from I.hok a _ ea);exact Dg PySem.W.kitx_list I.kIn ⟨_,h1,rfl⟩ e (λz=>nomatch z) h
 |@frz a ob xs ea=>
  cases(show u=B8 a from rx);obtain⟨_,_,_,n,_,h1⟩:=(show ObjOk X.prog X.w H s.heap a (.frz ob (.lst xs))from I.hok a _ ea);exact Dg PySem.W.kitx_list I.kIn ⟨_,h1,rfl⟩ e (λz=>nomatch z) h
 |@tup a xs ea=>
  cases(show u=B8 a from rx);obtain⟨_,_,_,p⟩:=(show ObjOk X.prog X.w H s.heap a (.tup xs)from I.hok a _ ea);obtain⟨o,h1,h2,_⟩:=p;exact Dg PySem.W.kitx_tuple I.kIn ⟨o,h1,h2⟩ e (λz=>nomatch z) h
 |@dK a kvs ea=>
  cases(show u=B8 a from rx);obtain⟨_,_,vs,_,p⟩:=(show ObjOk X.prog X.w H s.heap a (.dK kvs)from I.hok a _ ea);obtain⟨o,es,ep,h1,h2,_⟩:=p;exact Dg PySem.W.kitx_dict I.kIn ⟨o,h1,h2.1⟩ e (λz=>nomatch z) h
 |@dT a kvs ea=>
  cases(show u=B8 a from rx);obtain⟨_,_,xs,_,o,es,ep,h1,h2,_⟩:=(show ObjOk X.prog X.w H s.heap a (.dT kvs)from I.hok a _ ea);exact Dg PySem.W.kitx_dict I.kIn ⟨o,h1,h2.1⟩ e (λz=>nomatch z) h
 |@ins a C dx fs ea cl ha hn htk hm=>
  cases(show u=B8 a from rx);obtain⟨mA,O,_⟩:=WB I.hok ea;obtain⟨od,J,_⟩:=O.look;exact Dg (PySem.W.kitx_own (cl.get _) cl.hd ha hn htk hm) I.kIn J e (λz=>nomatch z) h
end
structure Room(k:Nat)(A:Cj):Prop where
 hd:A.handled=af
 dp:A.depth+3*k+5 < recursionLimit
 un:A.units+16*k+200 < cLine
 gd:A.guards=ae []
theorem Room.mono(r:Room k A)(h:j<=k):Room j A:=⟨r.hd,by have:=r.dp;omega,by have:=r.un;omega,r.gd⟩
theorem Room.deeper(r:Room (k+1) A)(env):Room k (A.deeper env):=
 ⟨r.hd,by have:=r.dp;show A.depth+1+3*k+5 < _;omega,by have:=r.un;show A.units+3+16*k+200 < _;omega,r.gd⟩
theorem Room.depth(r:Room k A):A.depth < recursionLimit:=by have:=r.dp;omega
theorem Room.units(r:Room k A):A.units+64 < cLine:=by have:=r.un;omega
theorem Room.units0(r:Room k A):A.units < cLine:=by have:=r.un;omega
def bF:TA:=λ_ H Q=>Q [] H
def cK(ta:TE)(tr:TA):TA:=λσ H Q=>ta σ H λx H1=>tr σ H1 λxs H2=>Q (x::xs) H2
section
variable{X:Cx}{e:Expr}{es:List Expr}{te:TE}{t:TA}{pos:Pos}
theorem dS:PA X [] bF:=λ_ _ _ _ H Q I h=>Calls.spliced_nil ⟨[],H,I,.nil,h⟩
theorem cH(ha:PE X e te)(hr:PA X es t)(hs:A8 (e::es) X.env=(ai,eval e X.env)::A8 es X.env:=by rfl):PA X (e::es) (cK te t):=by
 intro pos pins s σ H Q I h;rw[hs];show Bd _ _ (spliced ((ai,eval e X.env)::Df pos (A8 es X.env))) _ _ s;refine Calls.spliced_cons (bh (ha pins s σ H _ I h) λu s1 ⟨x,H1,I1,r1,q1⟩=>?_);exact bh (hr pos pins s1 σ H1 _ I1 q1) λus s2 ⟨xs,H2,I2,r2,q2⟩=>⟨x::xs,H2,I2,.cons r1 r2,q2⟩
def pH(t:TA):TE:=λσ H Q=>t σ H λxs H1=>xs.length<=A6/\∀p,H1 p=af->Q (.ref p) (upd H1 p (.tup xs))
def j6(t:TA):TE:=λσ H Q=>t σ H λxs H1=>xs.length<=A6/\∀p,H1 p=af->Q (.ref p) (upd H1 p (.lst xs))
theorem DB{x1}(h:PA X es t):PE X (.Tuple es x1 pos) (pH t):=by
 intro pins s σ H Q I hq;refine wpAny_Tuple_spliced (bh (h pos pins s σ H _ I hq) λus s1 ⟨xs,H1,I1,r,z,q⟩=>⟨by rw[<-r.length];exact z,?_⟩);have hf:H1 s1.heap.objs.size=af:=I1.hok.fresh (Ay _);refine⟨.ref s1.heap.objs.size,upd H1 s1.heap.objs.size (.tup xs),I1.laid (t':=s1.toks) (λb u e=>Ai _ e) (Ay _) ?_,rfl,q _ hf⟩;exact⟨z,us,r,IsTupP.new _ _⟩
theorem lL(h:PA X es t):PE X (.List es pos) (j6 t):=by
 intro pins s σ H Q I hq;refine wpAny_List_spliced (bh (h pos pins s σ H _ I hq) λus s1 ⟨xs,H1,I1,r,z,q⟩=>⟨by rw[<-r.length];exact z,?_⟩);have hf:H1 s1.heap.objs.size=af:=I1.hok.fresh (Ay _);refine⟨.ref s1.heap.objs.size,upd H1 s1.heap.objs.size (.lst xs),I1.laid (t':=s1.toks) (λb u e=>Ai _ e) (Ay _) ?_,rfl,q _ hf⟩;exact⟨z,us,0,r,Ba _ rfl⟩
end
abbrev Sp:=List V->Hp->VK->XK->Prop
abbrev jf:=List Env->Hp->Ao->XK->Aj->Ao->Prop
structure Env0(P:Bs)(w:B5)(K:Ag)(mg:Str->Option Aj)(base:Heap)(A:Cj)(outer:List Env)(s:Ao)(H:Hp):Prop where
 frames:A.frames=ae outer
 mod:Mod K mg base
 bs:∀b o,base.get? b=ae o->s.heap.get? b=ae o/\H b=af
 bsz:base.objs.size<=s.heap.objs.size
 funs:s.heap.FunFrames base outer
 frf:∀b∈iP outer,H b=af
 hok:HOk P w H s.heap
 bare:AllBare s.gens
def CE(outer:List Env)(P:Bs)(w:B5)(H:Hp)(s:Ao)(Q:VK)(u:Aj)(s':Ao):Prop:=
 ∃v H',s'.os=s.os/\AllBare s'.gens/\Un (iP outer) [] H H' s.heap s'.heap/\HOk P w H' s'.heap/\RelV v u/\Q v H'
def CR(CX:jf)(outer:List Env)(P:Bs)(w:B5)(H:Hp)(s:Ao)(Q:VK)(E:XK)(r:Result)(s':Ao):Prop:=
 match r with
 |.ok (.ret u)=>CE outer P w H s Q u s'
 |.ok _=>False
 |.error e=>CX outer H s E e s'
structure FnOk(P:Bs)(w:B5)(K:Ag)(mg:Str->Option Aj)(base:Heap)(CX:jf)(k:Nat)(f:Addr)(fd:C1)(ps:List Str)(sp:Sp):Prop where
 len:∀vs H Q E,sp vs H Q E->vs.length=ps.length
 run:∀(A:Cj)(outer:List Env)(s:Ao)(H:Hp)(args:Args)(us:List Aj)(vs:List V)(Q:VK)(E:XK),Room k A->Env0 P w K mg base A outer s H->BindsTo s fd args (ps.zip us)->Vals vs us->sp vs H Q E->
  Gs (Bn P w) A (.call (.ref f) args) (CR CX outer P w H s Q E) s
theorem FnOk.imp{K:Ag}(F:FnOk P w K mg base CX k f fd ps sp)
  (h:∀vs H Q E,sp' vs H Q E->sp vs H Q E):FnOk P w K mg base CX k f fd ps sp':=
 ⟨λvs H Q E q=>F.len vs H Q E (h _ _ _ _ q),λA outer s H args us vs Q E hr he hb hv hs=>F.run A outer s H args us vs Q E hr he hb hv (h _ _ _ _ hs)⟩
section
variable{X:Cx}{pins:List (Addr×Obj)}{σ:St}{H:Hp}{s s':Ao}
theorem Inv.env0(I:Inv X pins σ H s):Env0 X.prog X.w X.K X.mg X.base X.A X.stack s H:=
 ⟨I.ok.frames,I.ok.mod,I.bs,A4 I.ok.bsz I.sz,I.stack,I.stkFree,I.hok,I.bare⟩
theorem Inv.after(I:Inv X pins σ H s)(h:CE X.stack X.prog X.w H s Q u s'):EP X pins σ Q u s':=by
 obtain⟨v,H',os,bare,un,hok,r,q⟩:=h;obtain⟨hh,g,d,t,os'⟩:=s';obtain rfl:os'=s.os:=os;exact⟨v,H',I.call (h':=hh) (g':=g) (d':=d) (t':=t) (ch:=[]) un hok bare (λb z=>absurd z (by simp)),r,q⟩
end
def iC(sp:Sp)(dvs:List V)(E:XK)(t:TA):TE:=λσ H Q=>t σ H λvs H1=>sp (vs++dvs) H1 Q E
def Binds(K:Ag)(fd:C1)(ps:List Str)(ds:List Aj):Prop:=
 ∀(s:Ao)(us:List Aj),K.In s.heap->(us++ds).length=ps.length->BindsTo s fd ⟨us,[]⟩ (ps.zip (us++ds))
theorem Binds.all{K:Ag}(h:∀us:List Aj,us.length=ps.length->bindArgs fd ⟨us,[]⟩=pure (ps.zip us)):Binds K fd ps []:=λs us _ hl=>by
 rw[A5]at hl ⊢;exact .of_eq (h us hl)
def AI(CX:jf)(X:Cx)(E:XK):Prop:=∀(pins:List (Addr×Obj))(σ:St)(H:Hp)(s:Ao)(e:Aj)(s':Ao),Inv X pins σ H s->CX X.stack H s E e s'->X.xe e s'
section
variable{X:Cx}{CX:jf}{k:Nat}{f C:Addr}{fd:C1}{ps:List Str}{sp:Sp}{dvs:List V}{ds:List Aj}{E:XK}{x m:Str}{p pos apos:Pos}{e o:Expr}{es:List Expr}{ta:TE}{t:TA}
theorem NK{σ:St}(F:FnOk X.prog X.w X.K X.mg X.base CX k f fd ps sp)(hr:Room k X.A)(hb:Binds X.K fd ps ds)(hd:Vals dvs ds)(hx:AI CX X E)
  (I:Inv X pins σ H s) (r:Vals vs us) (h:sp (vs++dvs) H Q E):Bd (Bn X.prog X.w) X.A (call (.ref f) us) (EP X pins σ Q) X.xe s:=by
 have r2:Vals (vs++dvs) (us++ds):=r.append hd;have hl:(us++ds).length=ps.length:=by rw[<-r2.length];exact F.len _ _ _ _ h
 refine wpAny_call (codeAny_mono (F.run X.A X.stack s H ⟨us,[]⟩ (us++ds) (vs++dvs) Q E hr I.env0 (hb s us I.kIn hl) r2 h) λr s' hq=>?_);cases r with
 |error e=>exact hx pins σ H s e s' I hq
 |ok fl=>
  cases fl with
  |ret u=>exact I.after hq
  |next=>exact False.elim hq
  |brk=>exact False.elim hq
  |cont=>exact False.elim hq
theorem rE(F:FnOk X.prog X.w X.K X.mg X.base CX k f fd ps sp)(hr:Room k X.A)(hg:Gl X x)(hm:X.mg x=ae (.ref f))(hk:C2 X.K (.ref f)=ah)(hb:Binds X.K fd ps ds)(hd:Vals dvs ds)(hx:AI CX X E)
  (ha:PA X (e::es) t) (hdb:(x==("__debug__":Str))=ai:=by decide) (he:A8 (e::es) X.env=(ai,eval e X.env)::A8 es X.env:=by rfl) (hpl:(Df pos (A8 es X.env)).any (·.1)=ai:=by rfl):
  PE X (.Call (.Name x p) (e::es) [] pos) (iC sp dvs E t):=by
 intro pins s σ H Q I h;refine wpAny_Call_Name_kw (GU I hg hm ?_ hdb);refine PySem.W.callWith_K (h₀:=X.base) I.ok.mod.kin hk (bh (ha pos pins s σ H _ I h) λus s1 ⟨vs,H1,I1,r,q⟩=>⟨I1.kIn,?_⟩) he hpl;exact NK F hr hb hd hx I1 r q
end
structure FnScope(N P:List Str)(sc:Fl):Prop where
 kind:sc.kind=.function
 co:sc.isCoroutine=ai
 gen:sc.isGenerator=ai
 nd:N.Nodup
 pre:N.take P.length=P
 par:∀x∈P,sc.names.lookup x=ae .local\/sc.names.lookup x=ae .cell
 nofree:∀y∈sc.names,y.2≠.free
theorem DR{kindOf:Str->Option NameKind}:∀{binds:List (Str×Aj)}{m:Str->Option Aj},(∀v,(x,v)∉binds)->bindL kindOf binds m x=m x
 |[],_,_=>rfl
 | (n,v)::r,m,h=>by
  unfold bindL;rw[DR λw hw=>h w (Af _ hw)]
  split
  ·have:x≠n:=by rintro rfl;exact h v Ae
   simp[this]
  ·rfl
theorem CB{kindOf:Str->Option NameKind}:∀{binds:List (Str×Aj)}{m:Str->Option Aj},(∀v,(x,v)∉binds)->bindC kindOf binds m x=m x
 |[],_,_=>rfl
 | (n,v)::r,m,h=>by
  unfold bindC;rw[CB λw hw=>h w (Af _ hw)]
  split
  ·rfl
  ·have:x≠n:=by rintro rfl;exact h v Ae
   simp[this]
theorem EA{kindOf:Str->Option NameKind}:∀{P:List Str}{vs:List Aj}{i:Nat}{m:Str->Option Aj},P.Nodup->P[i]?=ae x->vs[i]?=ae v->kindOf x=ae .local->
  bindL kindOf (P.zip vs) m x=ae v
 |[],_,_,_,_,h,_,_=>by simp at h
 |_::_,[],_,_,_,_,h,_=>by simp at h
 |p::P,w::vs,0,m,nd,h1,h2,hk=>by
  simp at h1 h2;subst h1;subst h2;show bindL kindOf ((p,w)::P.zip vs) m p=_;unfold bindL;rw[DR λv hv=>(Fh.mp nd).1 (List.of_mem_zip hv).1,if_pos hk];simp
 |p::P,w::vs,i+1,m,nd,h1,h2,hk=>by
  show bindL kindOf ((p,w)::P.zip vs) m x=_;unfold bindL;exact EA (i:=i) (Fh.mp nd).2 (by simpa using h1) (by simpa using h2) hk
theorem Jw{kindOf:Str->Option NameKind}:∀{P:List Str}{vs:List Aj}{i:Nat}{m:Str->Option Aj},P.Nodup->P[i]?=ae x->vs[i]?=ae v->kindOf x≠ae .local->
  bindC kindOf (P.zip vs) m x=ae v
 |[],_,_,_,_,h,_,_=>by simp at h
 |_::_,[],_,_,_,_,h,_=>by simp at h
 |p::P,w::vs,0,m,nd,h1,h2,hk=>by
  simp at h1 h2;subst h1;subst h2;show bindC kindOf ((p,w)::P.zip vs) m p=_;unfold bindC;rw[CB λv hv=>(Fh.mp nd).1 (List.of_mem_zip hv).1,if_neg hk];simp
 |p::P,w::vs,i+1,m,nd,h1,h2,hk=>by
  show bindC kindOf ((p,w)::P.zip vs) m x=_;unfold bindC;exact Jw (i:=i) (Fh.mp nd).2 (by simpa using h1) (by simpa using h2) hk
def start(N:List Str)(vs:List V):St:=vs.map ae++C0 (N.length-vs.length) af
def dM(CX:jf)(P:Bs)(w:B5)(K:Ag)(mg:Str->Option Aj)(base:Heap)(N:List Str)(qual:Str)(scope:Fl)(f:Addr)(cd:Aj)(A:Cj)(outer:List Env)(s:Ao)(H:Hp)(E:XK):Cx where
 prog:=P
 w:=w
 K:=K
 mg:=mg
 base:=base
 A:=A.deeper (envOfC qual scope s.heap.objs.size f cd)
 N:=N
 s₀:=s
 H₀:=H
 env:=envOfC qual scope s.heap.objs.size f cd
 outer:=outer
 stack:=envOfC qual scope s.heap.objs.size f cd::outer
 ex:=[]
 calm:=ah
 fn:=λ_=>ah
 pn:=[]
 xe:=λe s'=>Bd (Bn P w) (A.deeper (envOfC qual scope s.heap.objs.size f cd)) (leaving (envOfC qual scope s.heap.objs.size f cd) e) (λ_ s''=>CX outer H s E e s'') (λe' s''=>CX outer H s E e' s'') s'
theorem GA{sc:Fl}(h:sc.names.lookup x=ae .cell):∃c,(cellsFrom n sc.names []).lookup x=ae c:=by
 have q:=PySem.W.cellsFrom_some sc.names n [] (.inl h);exact Option.isSome_iff_exists.mp q
theorem YR{K:Ag}
  (S:FnScope N ps scope) (hd:A.handled=af) (e0:Env0 P w K mg base A outer s H) (hl:vs.length=ps.length) (r:Vals vs us)
  (x:InCallC s s.heap.objs.size (bindL (envOfC qual scope s.heap.objs.size f cd).kindOf (ps.zip us) λ_=>af) (cellsFrom (s.heap.objs.size+1) scope.names []) (bindC (envOfC qual scope s.heap.objs.size f cd).kindOf (ps.zip us) λ_=>af) s1):
  Inv (dM CX P w K mg base N qual scope f cd A outer s H E) [] (start N vs) H s1:=by
 have hpl:ps.length<=N.length:=by have:=congrArg E8 S.pre;rw[E1]at this;omega
 obtain⟨h1,tk,rfl,hk⟩:=x.done;have noA:∀b:Addr,b∉(dM CX P w K mg base N qual scope f cd A outer s H E).ex:=λb z=>absurd (show b∈([]:List Addr)from z) (by simp);refine⟨⟨e0.mod,S.kind,rfl,rfl,Ay _,λy z c h1 h2=>?_,λy hy=>?_,λy c _ h=>?_,λ_=>hd,Around.frames_deeper e0.frames,.inr ⟨rfl,rfl⟩,λb z=>absurd z (noA b),e0.bs,e0.bsz,λb _ _=>noA b,λb z=>absurd z (noA b),e0.funs,e0.frf⟩,
  rfl,e0.bare,Un.kept hk,⟨_,x.toInCall.ns,λi y v h1 h2 h3=>?_⟩,λy c h=>⟨_,x.cell y c h⟩,e0.hok.fresh (Ay _),λy c h=>?_,λp hp=>absurd (show p∈([]:List (Addr×Obj))from hp) (by simp),e0.hok.kept hk,?_⟩
 ·exact name_of_addr x.apart (F3 h1) (F3 h2)
 ·have hy:scope.names.lookup y=ae .cell\/scope.names.lookup y=ae .free:=hy;rcases hy with hy|hy
  ·exact GA hy
  ·exact absurd rfl (S.nofree _ (F3 hy))
 ·exact Gn (x.above y c (F3 h))
 ·have hi:i < vs.length:=by
   unfold start at h2;by_cases hi:i < vs.length
   ·exact hi
   ·rw[List.getElem?_append_right (by simpa using hi)]at h2;rw[D9]at h2
    split at h2<;>cases h2
  have ha:vs[i]?=ae v:=by
   unfold start at h2;rw[G7 (by simpa using hi),Bh]at h2;cases e:vs[i]? with
   |none=>rw[e]at h2;cases h2
   |some a=>rw[e]at h2;cases h2;rfl
  obtain⟨u,hu,rv⟩:=r.get ha;have hp:ps[i]?=ae y:=by
   rw[<-S.pre,List.getElem?_take_of_lt ⋯];exact h1
  have ndP:ps.Nodup:=by rw[<-S.pre];exact S.nd.sublist (List.take_sublist _ _)
  refine⟨u,rv,?_⟩;rcases S.par y (D4 hp)with k|k
  ·exact .inl ⟨k,EA ndP hp hu k⟩
  ·obtain⟨c,e⟩:=GA (n:=s.heap.objs.size+1) k;refine .inr ⟨.inl k,c,e,?_⟩;have q:=x.cell y c e;rw[Jw ndP hp hu (by show scope.names.lookup y≠_;rw[k];decide)]at q;exact q
 ·exact e0.hok.fresh (Gn (x.above y c (F3 h)))
 ·unfold start;show _=N.length;rw[Ah,Ab,Gp];omega
theorem OA{K:Ag}{dV kV doc pm cdv ct oc:Aj}
     (lk:K.lookup f=ae ⟨oc,od,.func (Fv name qual params body scope dV kV doc pm an cdv ct),osl⟩) (hcd:PySem.W.codeIn K cdv qual=ah) (S:FnScope N ps scope)
  (len:∀vs H Q E,sp vs H Q E->vs.length=ps.length)
  (hbody:∀(A:Cj)(outer:List Env)(s:Ao)(H:Hp)(vs:List V)(Q:VK)(E:XK),Room k (A.deeper (envOfC qual scope s.heap.objs.size f cdv))->sp vs H Q E->
   ∃t,PSs (dM CX P w K mg base N qual scope f cdv A outer s H E) body t/\t {nx:=λ_ H'=>Q .non H',rt:=Q} (start N vs) H):
  FnOk P w K mg base CX (k+1) f (Fv name qual params body scope dV kV doc pm an cdv ct) ps sp:=by
 refine⟨len,λA outer s H args us vs Q E hr e0 hb r hsp=>?_⟩;have hl:=len _ _ _ _ hsp;have KX:K.In s.heap:=e0.mod.kin.keeps λb o e=>(e0.bs b o e).1;have lim:s.heap.NoLimit:=e0.mod.nolimit.keeps λb o e=>(e0.bs b o e).1;have hkind:∀y∈ps.zip us,scope.names.lookup y.1=ae .local\/(scope.names.lookup y.1=ae .cell/\((cellsFrom (s.heap.objs.size+1) scope.names []).lookup y.1).isSome=ah):=λ⟨n,v⟩ hy=>by
  rcases S.par n (List.of_mem_zip hy).1 with q|q
  ·exact .inl q
  ·exact .inr ⟨q,PySem.W.cellsFrom_some _ _ _ (.inl q)⟩
 refine codeAny_call_function hr.depth (KX _ _ lk) rfl S.co S.gen rfl (PySem.W.codeRec_of KX hcd) (hb _ _ _ _ ?_);refine wpAny_newFunctionEnv_cells S.kind hkind λenv he s1 x=>?_;subst he;refine⟨lim.keeps x.toInCall.keep,codeAny_func ?_⟩;obtain⟨t,ht,hq⟩:=hbody A outer s H vs Q E (hr.deeper _) hsp;have I:Inv (dM CX P w K mg base N qual scope f cdv A outer s H E) [] (start N vs) H s1:=YR S hr.hd e0 hl r x;refine Dn (ht [] s1 (start N vs) H _ I hq) (λfl s' hs=>?_) λe s' hs=>hs;have fin:∀{σ':St}{H':Hp}{v:V}{u:Aj},Inv (dM CX P w K mg base N qual scope f cdv A outer s H E) [] σ' H' s'->RelV v u->Q v H'->CE outer P w H s Q u s':=
  λ{σ' H' v u} J rv q=>⟨v,H',J.os,J.bare,J.base,J.hok,rv,q⟩
 cases fl with
 |ret u=>
  obtain⟨v,σ',H',J,rv,q⟩:=hs;exact fin J rv q
 |next=>
  obtain⟨σ',H',J,q⟩:=hs;exact fin (v:=V.non) (u:=B1) J rfl q
 |brk=>
  obtain⟨_,_,_,q⟩:=hs;exact False.elim q
 |cont=>
  obtain⟨_,_,_,q⟩:=hs;exact False.elim q
section
variable{X:Cx}{x:Str}{p pos:Pos}{e:Expr}{es:List Expr}{t:TA}{id T:String}{r:List V->Hp->VK->Prop}
def i6(r:List V->Hp->VK->Prop)(t:TA):TE:=λσ H Q=>t σ H λvs H1=>r vs H1 Q
theorem nc(hc:CallR X (.builtin id) r)(hg:Gl X x)(hm:X.mg x=af)(hv:Cf x=ae (.builtin id))(ha:PA X (e::es) t)(hn:x≠"__name__":=by decide)(hdb:(x==("__debug__":Str))=ai:=by decide)
  (he:A8 (e::es) X.env=(ai,eval e X.env)::A8 es X.env:=by rfl) (hpl:(Df pos (A8 es X.env)).any (·.1)=ai:=by rfl):PE X (.Call (.Name x p) (e::es) [] pos) (i6 r t):=by
 intro pins s σ H Q I h;refine wpAny_Call_Name_kw (lR I hg hm hv ?_ hn hdb);exact PyProof.Rows.callWith_builtin1 (bh (ha pos pins s σ H _ I h) λus s1 ⟨vs,H1,I1,r1,q1⟩=>hc pins s1 σ H1 vs us Q I1 r1 q1) he hpl
theorem AJ(hc:CallR X (.type T) r)(hg:Gl X x)(hm:X.mg x=af)(hv:Cf x=ae (.type T))(ha:PA X (e::es) t)(hn:x≠"__name__":=by decide)(hdb:(x==("__debug__":Str))=ai:=by decide)
  (he:A8 (e::es) X.env=(ai,eval e X.env)::A8 es X.env:=by rfl) (hpl:(Df pos (A8 es X.env)).any (·.1)=ai:=by rfl):PE X (.Call (.Name x p) (e::es) [] pos) (i6 r t):=by
 intro pins s σ H Q I h;refine wpAny_Call_Name_kw (lR I hg hm hv ?_ hn hdb);exact D3 (bh (ha pos pins s σ H _ I h) λus s1 ⟨vs,H1,I1,r1,q1⟩=>hc pins s1 σ H1 vs us Q I1 r1 q1) he hpl
end
end L2
namespace HT
open PySem PyProof.Rows
section
variable{prog:Bs}{w:B5}{A:Cj}{E:Aj->Ao->Prop}{s:Ao}
theorem cat_tup(ht:IsTup s.heap t vs.toArray)(hb:IsTup s.heap b ws.toArray)(hv:vs≠[])
  (h1:ws=[]->Q (.ref t) s) (h2:ws≠[]->Q (.ref s.heap.objs.size) {s with heap:=s.heap.push {cls:=.type "tuple",data:=.seq (vs++ws).toArray}})
  (hsz:vs.length+ws.length<=A6):Bd (Bn prog w) A (Fd .Add (.ref t) (.ref b)) Q E s:=by
 obtain⟨⟨cls,dd,data,sl⟩,ho,hc,n,hd⟩:=id ht;obtain⟨⟨cls2,dd2,data2,sl2⟩,ho2,hc2,n2,hd2⟩:=id hb;simp only at hc hd hc2 hd2;subst hc hd hc2 hd2;have e:vs.toArray++ws.toArray=(vs++ws).toArray:=by simp
 by_cases hw:ws=[]
 ·exact concat_meets ⟨_,ho,rfl⟩ ⟨_,ho2,rfl⟩ noFill_tuple_add seq_tuple_add Gd Ga (F4 _ _)
   (tuple_addW1 t b vs.toArray ws.toArray n n2 dd dd2 sl sl2 (by simpa using hv) (by simp[hw])) ⟨ho,ho2,h1 hw⟩
 ·refine concat_meets ⟨_,ho,rfl⟩ ⟨_,ho2,rfl⟩ noFill_tuple_add seq_tuple_add Gd Ga (F4 _ _)
   (tuple_addW2 t b vs.toArray ws.toArray n n2 dd dd2 sl sl2 (by simpa using hv) (by simpa using hw) (by rw[Bb,Bb];exact hsz)) ⟨ho,ho2,?_⟩
  rw[e];exact h2 hw
def sIx(n d:Nat):Option Int->Nat
 |none=>d
 |some v=>if v < 0 then(v+(n:Int)).toNat else min v.toNat n
theorem sIx_none(n d):sIx n d af=d:=rfl
theorem sIx_nat(n d k:Nat):sIx n d (ae (k:Int))=min k n:=by
 show(if (k:Int) < 0 then((k:Int)+(n:Int)).toNat else min (k:Int).toNat n)=min k n;rw[if_neg ⋯,B6]
theorem PD(n d)(hd:d<=n)(o):sIx n d o<=n:=by
 cases o with
 |none=>exact hd
 |some v=>
  show(if v < 0 then(v+(n:Int)).toNat else min v.toNat n)<=n;by_cases hv:v < 0
  ·rw[if_pos hv];omega
  ·rw[if_neg hv];exact Nat.min_le_right _ _
theorem Jp(v)(n d:Nat):(if v < 0 then max (v+(n:Int)) 0 else min v (n:Int))=((sIx n d (ae v):Nat):Int):=by
 show(if v < 0 then max (v+(n:Int)) 0 else min v (n:Int))=(((if v < 0 then(v+(n:Int)).toNat else min v.toNat n):Nat):Int);by_cases hv:v < 0
 ·simp only[if_pos hv];omega
 ·simp only[if_neg hv];omega
theorem O1(lo hi)(n:Nat):Gu lo hi 1 (n:Int)=(((sIx n 0 lo:Nat):Int),((sIx n n hi:Nat):Int)):=by
 have h1:¬((1:Int) < 0):=by omega
 unfold Gu;simp only[h1,if_false];refine Prod.ext ?_ ?_
 ·cases lo with
  |none=>rfl
  |some v=>exact Jp v n 0
 ·cases hi with
  |none=>rfl
  |some v=>exact Jp v n n
theorem Wr(i j:Nat):Fi (i:Int) (j:Int) 1=j-i:=by
 unfold Fi;have h1:(1:Int) > 0:=by omega
 simp only[h1,if_true,Int.ediv_one]
 split<;>omega
theorem FY(p:IsPart v o)(h:Q o s):Bd (Bn prog w) A (Builtin.Slice.slicePartIndex v) Q E s:=by
 cases p with
 |none=>exact slicePart_none h
 |int i t=>exact slicePart_int h
theorem GF{lo hi:Option Int}{Q:Int×Int×Nat->Ao->Prop}(hs:s.heap.IsSliceOf sl vl vu .none)(pl:IsPart vl lo)(pu:IsPart vu hi)
  (h:Q (((sIx n 0 lo:Nat):Int),1,sIx n n hi-sIx n 0 lo) s):Bd (Bn prog w) A (Builtin.Slice.sliceApplied (.ref sl) (pure (n:Int))) Q E s:=by
 obtain⟨os,hos,hcs,hds⟩:=id hs;unfold Builtin.Slice.sliceApplied Builtin.Slice.sliceFields;refine Ad (Ad (C3 hos hds (x:=vl) rfl (Ad (C3 hos hds (x:=vu) rfl (Ad (C3 hos hds (x:=.none) rfl (Ap ?_)))))));refine Ad (slicePart_none ?_);show Bd _ _ (if ((1:Int)==0)=ah then _ else _) _ _ s;rw[if_neg ∎];refine Ad (FY pl (Ad (FY pu (Ad (Ap ?_)))));show Bd _ _ (match Gu lo hi 1 (n:Int)with|(lo,hi)=>pure (lo,(1:Int),Fi lo hi 1)) _ _ s;rw[O1 lo hi n];show Bd _ _ (pure (((sIx n 0 lo:Nat):Int),(1:Int),Fi ((sIx n 0 lo:Nat):Int) ((sIx n n hi:Nat):Int) 1)) _ _ s;rw[Wr];exact Ap h
theorem Tv(xs:Array Aj)(i k:Nat):((Ce k).filterMap λ(m:Nat)=>xs[((i:Int)+(m:Int)*1).toNat]?).toArray=((xs.toList.drop i).take k).toArray:=by
 have e:(λ(m:Nat)=>xs[((i:Int)+(m:Int)*1).toNat]?)=λm=>xs[i+m]?:=by
  funext m
  have:((i:Int)+(m:Int)*1).toNat=i+m:=by omega
  rw[this]
 rw[e];have:=pick_run xs i k;rw[List.filterMap_map]at this;have e2:((λx=>xs[x]?) ∘ λx=>i+x)=λm=>xs[i+m]?:=rfl;rw[e2]at this;rw[this]
theorem getItem_tuple_cut{lo hi:Option Int}(ht:IsTup s.heap t items)(hs:s.heap.IsSliceOf sl vl vu .none)(pl:IsPart vl lo)(pu:IsPart vu hi)
  (hw:¬(sIx items.size 0 lo=0/\sIx items.size items.size hi=items.size))
  (h:Q (.ref s.heap.objs.size) {s with heap:=s.heap.push {cls:=.type "tuple",data:=.seq ((items.toList.drop (sIx items.size 0 lo)).take (sIx items.size items.size hi-sIx items.size 0 lo)).toArray}})
  (hsz:items.size<=A6):Bd (Bn prog w) A (getItem (.ref t) (.ref sl)) Q E s:=by
 have htake:sizeOk (.seq ((items.toList.drop (sIx items.size 0 lo)).take (sIx items.size items.size hi-sIx items.size 0 lo)).toArray):=by
  show((items.toList.drop (sIx items.size 0 lo)).take (sIx items.size items.size hi-sIx items.size 0 lo)).toArray.size<=A6;rw[Bb,E1,List.length_drop,C5];omega
 have hj:sIx items.size items.size hi<=items.size:=PD _ _ (Ay _) hi;obtain⟨os,hos,hcs,hds⟩:=id hs;have hTs:s.TypeIs (.ref sl) "slice":=⟨os,hos,hcs⟩;unfold getItem
 try with_reducible refine Dv ?_
 first|refine Ad (Ap ?_)|skip
 refine Ad (wpAny_sequenceKey ht.typeIs ∎ ?_);refine Ad (B9 (name:=Bt "__getitem__") ht.typeIs Ej
  (Cp Ej ht.typeIs entry_tuple_getitem ?_ (args_tuple_getitem _ _)))
 show Bd _ _ (Builtin.Tuple.tupleItemsOf (.ref t)>>=_) _ _ s;refine Ad (tupleItemsOf_ ht ?_);refine Ad (wpAny_typeOf hTs ?_);rw[if_pos ∎];refine Ad (GF hs pl pu ?_);have hno:¬((((sIx items.size 0 lo:Nat):Int)==0&&(1:Int)==1&&(sIx items.size items.size hi-sIx items.size 0 lo)==items.size)=ah):=by
  intro q;rw[Ak,Ak]at q;have q1:((sIx items.size 0 lo:Nat):Int)=0:=eq_of_beq q.1.1;have q2:sIx items.size items.size hi-sIx items.size 0 lo=items.size:=eq_of_beq q.2;exact hw ⟨by omega,by omega⟩
 show Bd _ _ (if (((sIx items.size 0 lo:Nat):Int)==0&&(1:Int)==1&&(sIx items.size items.size hi-sIx items.size 0 lo)==items.size)=ah then _ else _) _ _ s;rw[if_neg hno,Tv]
 first
  |exact Ad (m:=Fp _) (Cc (Ap ⟨_,rfl,Ap h⟩) htake)
  |exact Ad (m:=Fp _) (Cc (Ad (Ap (Ap ⟨_,rfl,Ap h⟩))) htake)
  |exact Ad (Ad (m:=Fp _) (Cc (Ap (Ap ⟨_,rfl,Ap h⟩)) htake))
  |exact Ad (Ad (m:=Fp _) (Cc (Ap ⟨_,rfl,Ap h⟩) htake))
end
end HT
namespace L2
open PySem PySem.Spec PyProof.Rows
abbrev TO:=St->Hp->(Option Int->Hp->Prop)->Prop
def PO(X:Cx)(e:Option Expr)(t:TO):Prop:=
 ∀(pins:List (Addr×Obj))(s:Ao)(σ:St)(H:Hp)(Q:Option Int->Hp->Prop),Inv X pins σ H s->t σ H Q->
  Bd (Bn X.prog X.w) X.A (evalPart e X.env) (λu s'=>∃o H',Inv X pins σ H' s'/\IsPart u o/\Q o H') X.xe s
def yH:TO:=λ_ H Q=>Q af H
def yf(t:TE):TO:=λσ H Q=>t σ H λx H1=>∃i,x=.int i/\Q (ae i) H1
section
variable{X:Cx}{e:Expr}{te:TE}{lo hi:Option Expr}{tl th:TO}{pos p2:Pos}
theorem yY:PO X af yH:=by
 intro pins s σ H Q I h;rw[evalPart_none];exact Ap ⟨af,H,I,.none,h⟩
theorem uO(h:PE X e te):PO X (ae e) (yf te):=by
 intro pins s σ H Q I hw;rw[evalPart_some];refine bh (h pins s σ H _ I hw) λu s1 ⟨x,H1,I1,r1,q1⟩=>?_;obtain⟨i,rfl,q⟩:=q1;obtain⟨t,rfl⟩:=r1;exact⟨ae i,H1,I1,.int i t,q⟩
def SlR(X:Cx)(r:V->Option Int->Option Int->Hp->VK->Prop):Prop:=
 ∀(pins:List (Addr×Obj))(s:Ao)(σ:St)(H:Hp)(x:V)(v vl vu:Aj)(lo hi:Option Int)(sl:Addr)(Q:VK),Inv X pins σ H s->RelV x v->s.heap.IsSliceOf sl vl vu .none->IsPart vl lo->IsPart vu hi->r x lo hi H Q->
  ∃T id,typeLookup (.type T) "__getitem__"=pure (ae (.builtin id))/\s.TypeIs v T/\Bd (Bn X.prog X.w) X.A (getItem v (.ref sl)) (EP X pins σ Q) X.xe s
theorem SlR.or(h:SlR X r)(h':SlR X r'):SlR X (λx lo hi H Q=>r x lo hi H Q\/r' x lo hi H Q):=by
 intro pins s σ H x v vl vu lo hi sl Q I rx hs pl pu q;rcases q with q|q
 ·exact h pins s σ H x v vl vu lo hi sl Q I rx hs pl pu q
 ·exact h' pins s σ H x v vl vu lo hi sl Q I rx hs pl pu q
def sF(r:V->Option Int->Option Int->Hp->VK->Prop)(te:TE)(tl th:TO):TE:=λσ H Q=>te σ H λx H1=>tl σ H1 λl H2=>th σ H2 λu H3=>r x l u H3 Q
theorem t8(hr:SlR X r)(he:PE X e te)(hl:PO X lo tl)(hu:PO X hi th):PE X (.Subscript e (.Slice lo hi af p2) pos) (sF r te tl th):=by
 intro pins s σ H Q I h;refine Subscript_ (bh (he pins s σ H _ I h) λv s1 ⟨x,H1,I1,r1,q1⟩=>?_);refine wpAny_Slice (bh (hl pins s1 σ H1 _ I1 q1) λvl s2 ⟨l,H2,I2,pl,q2⟩=>bh (hu pins s2 σ H2 _ I2 q2) λvu s3 ⟨u,H3,I3,pu,q3⟩=>?_);rw[evalPart_none];refine Ap ?_;have I4:Inv X pins σ H3 {s3 with heap:=s3.heap.push {cls:=.type "slice",data:=.fields #[vl,vu,.none]}}:=I3.kept (t':=s3.toks) λb ob q=>Ai _ q;obtain⟨T,id,hT,ht,hg⟩:=hr pins {s3 with heap:=s3.heap.push {cls:=.type "slice",data:=.fields #[vl,vu,.none]}} σ H3 x v vl vu l u s3.heap.objs.size Q I4 r1 (Heap.IsSliceOf.new ..) pl pu q3;show Bd (Bn X.prog X.w) X.A (subscriptTail e (.Slice lo hi af p2) v (.ref s3.heap.objs.size)) (EP X pins σ Q) X.xe {s3 with heap:=s3.heap.push {cls:=.type "slice",data:=.fields #[vl,vu,.none]}};exact tail_any (ops:=[.ref s3.heap.objs.size,v]) ht hT hg (by with_unfolding_all rfl)
def fi(xs:List V)(lo hi:Option Int):List V:=(xs.drop (HT.sIx xs.length 0 lo)).take (HT.sIx xs.length xs.length hi-HT.sIx xs.length 0 lo)
theorem sW(xs:List V)(lo hi):(fi xs lo hi).length<=xs.length:=by
 unfold fi;rw[E1,List.length_drop];omega
def om(K:Ag):V->Option Int->Option Int->Hp->VK->Prop:=λx lo hi H Q=>∃a xs,x=.ref a/\SqT K H a xs /\
 ¬(HT.sIx xs.length 0 lo=0/\HT.sIx xs.length xs.length hi=xs.length)/\∀p,H p=af->Q (.ref p) (upd H p (.tup (fi xs lo hi)))
theorem sl_tup:SlR X (om X.K):=by
 intro pins s σ H x v vl vu lo hi sl Q I rx hs pl pu h;obtain⟨a,xs,rfl,hx,hw,q⟩:=h;cases rx;obtain⟨its,r,ht,hz⟩:=I.tuple hx;have hlen:its.toArray.size=xs.length:=by rw[Bb];exact r.length.symm
 refine⟨"tuple",_,PyProof.Rows.slot_tuple_getitem.lookup,ht.typeIs,?_⟩;refine HT.getItem_tuple_cut ht hs pl pu (by rw[hlen];exact hw) ?_ (by rw[hlen];exact hz);rw[hlen];refine⟨.ref s.heap.objs.size,_,I.laid (t':=s.toks) (o:=.tup (fi xs lo hi)) (λb ob q=>Ai _ q) (Ay _) ?_,rfl,q _ (I.hok.fresh (Ay _))⟩;exact⟨A4 (sW xs lo hi) hz,_,(r.drop (HT.sIx xs.length 0 lo)).take (HT.sIx xs.length xs.length hi-HT.sIx xs.length 0 lo),IsTupP.new _ _⟩
def ID(K:Ag):R2:=λx y H Q=>∃a b xs ys,x=.ref a/\y=.ref b/\SqT K H a xs/\SqT K H b ys/\xs≠[]/\xs.length+ys.length<=A6 /\
 (ys=[]->Q (.ref a) H)/\(ys≠[]->∀p,H p=af->Q (.ref p) (upd H p (.tup (xs++ys))))
theorem Vals.nil_iff(r:Vals xs us):us=[]↔xs=[]:=by
 cases r with
 |nil=>simp
 |cons _ _=>simp
theorem op_catT:OpR X (Fd .Add) (ID X.K):=by
 intro pins s σ H x y v u Q I rx ry h;obtain⟨a,b,xs,ys,rfl,rfl,ha,hb,hx,hz,q1,q2⟩:=h;cases rx;cases ry;obtain⟨its,r1,p1,_⟩:=I.tuple ha;obtain⟨its2,r2,p2,_⟩:=I.tuple hb;refine HT.cat_tup p1 p2 (λz=>hx (r1.nil_iff.mp z)) (λz=>⟨.ref a,H,I,rfl,q1 (r2.nil_iff.mp z)⟩) (λz=>?_) (by rw[<-r1.length,<-r2.length];exact hz);refine⟨.ref s.heap.objs.size,_,I.laid (t':=s.toks) (o:=.tup (xs++ys)) (λb ob q=>Ai _ q) (Ay _) ?_,rfl,q2 (λw=>z (r2.nil_iff.mpr w)) _ (I.hok.fresh (Ay _))⟩;exact⟨by rw[Ah];exact hz,_,r1.append r2,IsTupP.new _ _⟩
end
def iJ(n:Nat)(i:Int):Option Nat:=if 0<=i then(if i < n then ae i.toNat else af)else if -(n:Int)<=i then ae (i+n).toNat else af
def cF{α:Type}(xs:List α)(i:Int):Option α:=(iJ xs.length i).bind λj=>xs[j]?
theorem GP(h:iJ n i=ae j):seqIndex? i n=ae j/\j < n/\-(n:Int)<=i/\i < n:=by
 unfold iJ at h;by_cases h0:0<=i
 ·rw[if_pos h0]at h;by_cases h1:i < n
  ·rw[if_pos h1]at h;have e:i.toNat=j:=B3 h;exact⟨by rw[seqIndex_of h0 h1,e],by omega,by omega,h1⟩
  ·rw[if_neg h1]at h;cases h
 ·rw[if_neg h0]at h;by_cases h1:-(n:Int)<=i
  ·rw[if_pos h1]at h;have e:(i+n).toNat=j:=B3 h;exact⟨by rw[seqIndex_neg ⋯ h1,e],by omega,h1,by omega⟩
  ·rw[if_neg h1]at h;cases h
theorem xi(h:cF xs i=ae v):∃j,seqIndex? i xs.length=ae j/\xs[j]?=ae v/\j < xs.length/\-(xs.length:Int)<=i/\i < xs.length:=by
 unfold cF at h;cases e:iJ xs.length i with
 |none=>rw[e]at h;cases h
 |some j=>
  rw[e]at h;obtain⟨h1,h2,h3,h4⟩:=GP e;exact⟨j,h1,h,h2,h3,h4⟩
theorem fX{j:Nat}(h:xs[j]?=ae v):cF xs (j:Int)=ae v:=by
 have hj:j < xs.length:=(Bu.mp h).1;have e:iJ xs.length (j:Int)=ae j:=by
  unfold iJ;rw[if_pos ⋯,if_pos ⋯];simp
 unfold cF;rw[e];exact h
def nz(b:Expr):Prop:=∀o i,subscripted b ai o i=operate [o,i] (getItem o i)
def IxR(X:Cx)(r:R2):Prop:=
 ∀(value slice:Expr)(pins:List (Addr×Obj))(s:Ao)(σ:St)(H:Hp)(x y:V)(v u:Aj)(Q:VK),Inv X pins σ H s->RelV x v->RelV y u->r x y H Q->
  subscripted slice ai v u=operate [v,u] (getItem v u)->Bd (Bn X.prog X.w) X.A (subscriptTail value slice v u) (EP X pins σ Q) X.xe s
def rm(X:Cx)(id:String)(r:V->List V->Hp->VK->Prop):Prop:=
 ∀(pins:List (Addr×Obj))(s:Ao)(σ:St)(H:Hp)(x:V)(xs:List V)(v:Aj)(us:List Aj)(Q:VK),Inv X pins σ H s->RelV x v->Vals xs us->r x xs H Q->
  Bd (Bn X.prog X.w) X.A (call (.builtin id) (v::us)) (EP X pins σ Q) X.xe s
section
variable{X:Cx}{a b:Expr}{ta tb:TE}{pos:Pos}
theorem IxR.or(h:IxR X r)(h':IxR X r'):IxR X (λx y H Q=>r x y H Q\/r' x y H Q):=by
 intro value slice pins s σ H x y v u Q I rx ry q hs;rcases q with q|q
 ·exact h value slice pins s σ H x y v u Q I rx ry q hs
 ·exact h' value slice pins s σ H x y v u Q I rx ry q hs
theorem fR(hr:IxR X r)(ha:PE X a ta)(hb:PE X b tb)(hs:nz b):PE X (.Subscript a b pos) (d3 r ta tb):=by
 intro pins s σ H Q I h;exact Subscript_ (ma ha hb I h λv u s2 x y H2 I2 rx ry q=>hr a b pins s2 σ H2 x y v u Q I2 rx ry q (hs _ _))
def qK(K:Ag):R2:=λx y H Q=>∃p xs i v,x=.ref p/\y=.int i/\SqL K H p xs/\cF xs i=ae v/\Q v H
def nW(K:Ag):R2:=λx y H Q=>∃p xs i v,x=.ref p/\y=.int i/\SqT K H p xs/\cF xs i=ae v/\Q v H
def p9:R2:=λx y H Q=>∃z i c,x=.str z/\y=.int i/\z.length<=A6/\cF z.cps.toList i=ae c/\Q (.str ⟨#[c]⟩) H
theorem ix_list:IxR X (qK X.K):=by
 intro value slice pins s σ H x y v u Q I rx ry h hs;obtain⟨p,xs,i,z,rfl,rfl,hq,he,q⟩:=h;cases rx;obtain⟨t,rfl⟩:=ry;obtain⟨its,r,pl,hz⟩:=I.list hq;obtain⟨j,h1,h2,h3,h4,h5⟩:=xi he;obtain⟨w,ew,rw'⟩:=r.get h2;have hl:=r.length;have hn:=nO;have fin:EP X pins σ Q w s:=⟨z,H,I,rw',q⟩;by_cases h0:0<=i
 ·have hj:i.toNat=j:=by
   rw[seqIndex_of h0 h5]at h1;exact B3 h1
  exact item_listR pl.isList h0 ⋯ (by rw[hj];simpa using ew) fin hs
 ·have hj:(i+(its.toArray.size:Int)).toNat=j:=by
   rw[seqIndex_neg ⋯ h4]at h1;rw[Bb,<-hl];exact B3 h1
  exact subscriptTail_builtinR (x:=w) pl.isList.typeIs slot_list_getitem.lookup
   (wpAny_getItem_list_neg (Q:=λr s'=>r=w/\EP X pins σ Q r s') pl.isList ⋯ (by rw[Bb]<;>omega) ⋯ (by rw[hj];simpa using ew) ⟨rfl,fin⟩) hs
theorem ix_tup:IxR X (nW X.K):=by
 intro value slice pins s σ H x y v u Q I rx ry h hs;obtain⟨p,xs,i,z,rfl,rfl,hq,he,q⟩:=h;cases rx;obtain⟨t,rfl⟩:=ry;obtain⟨its,r,pl,hz⟩:=I.tuple hq;obtain⟨j,h1,h2,h3,h4,h5⟩:=xi he;obtain⟨w,ew,rw'⟩:=r.get h2;have hl:=r.length;have hn:=nO;have fin:EP X pins σ Q w s:=⟨z,H,I,rw',q⟩;exact subscriptTail_builtinR (x:=w) pl.typeIs slot_tuple_getitem.lookup
  (getItem_tuple (j:=j) (Q:=λr s'=>r=w/\EP X pins σ Q r s') pl ⋯ ⋯ (by rw[Bb,<-hl];exact h1) (by simpa using ew) ⟨rfl,fin⟩) hs
theorem Nk:IxR X p9:=by
 intro value slice pins s σ H x y v u Q I rx ry h hs;obtain⟨z,i,c,rfl,rfl,hz,he,q⟩:=h;obtain⟨t,rfl⟩:=rx;obtain⟨t',rfl⟩:=ry;obtain⟨j,h1,h2,h3,h4,h5⟩:=xi he;have hl:z.cps.toList.length=z.length:=by simp[Str.length]
 rw[hl]at h1 h4 h5;have hn:=nO;exact tail_any (typeIs_str s z t) slot_str_getitem.lookup (getItem_str (c:=c) (by
  have e1:decide (i < -(2 ^ 63:Int))=ai:=decide_eq_false ⋯;have e2:decide (i ≥ 2 ^ 63)=ai:=decide_eq_false ⋯;rw[e1,e2,Bool.or_false]) (by rw[h1];simpa using h2) ⟨.str ⟨#[c]⟩,H,I.tok _,⟨_,rfl⟩,q⟩) hs
def jD(K:Ag):R2:=λx y H Q=>qK K x y H Q\/nW K x y H Q\/p9 x y H Q
theorem md:IxR X (jD X.K):=ix_list.or (ix_tup.or Nk)
theorem OQ(its:List Aj)(n j)(u):C7 (·.setIfInBounds j u) {cls:=.type "list",data:=.seq its.toArray n}={ cls:=.type "list",data:=.seq (its.set j u).toArray n}:=by
 simp[C7]
theorem Inv.lst{σ:St}{H:Hp}{s:Ao}{p:Addr}{xs:List V}(I:Inv X pins σ H s)(h:H p=ae (.lst xs)):
  ∃(its:List Aj)(n:Nat),Vals xs its/\s.heap.get? p=ae {cls:=.type "list",data:=.seq its.toArray n}/\xs.length<=A6:=by
 obtain⟨z,its,n,r,e⟩:=I.hok p _ h;exact⟨its,n,r,e,z⟩
theorem Inv.lstUpd{σ:St}{its its':List Aj}(I:Inv X pins σ H s)(h:H p=ae (.lst xs))
  (ho:s.heap.get? p=ae {cls:=.type "list",data:=.seq its.toArray n}) (hf:f {cls:=.type "list",data:=.seq its.toArray n}={ cls:=.type "list",data:=.seq its'.toArray n'}) (r:Vals ys its') (hz:ys.length<=A6) (t):
  Inv X pins σ (upd H p (.lst ys)) {s with heap:=s.heap.update p f,toks:=t}:=by
 have e:(s.heap.update p f).get? p=ae {cls:=.type "list",data:=.seq its'.toArray n'}:=by
  rw[Ca f ho (by rw[hf]<;>rfl),hf]
 refine I.write (x:=p) (e:=p) (by rw[h];trivial) (.inl rfl) (λb u hb q=>(Ed _ _ (Ne.symm hb)).trans q) ⟨_,e⟩ ?_;exact⟨hz,its',n',r,e⟩
def Ja:V->V->V->Hp->(Hp->Prop)->Prop:=λo i v H Q=>∃p xs k j,o=.ref p/\i=.int k/\H p=ae (.lst xs)/\iJ xs.length k=ae j/\Q (upd H p (.lst (xs.set j v)))
theorem r8:oE X Ja:=by
 intro pins s σ H o i v ov iv u Q I ro ri rv h;obtain⟨p,xs,k,j,rfl,rfl,hp,hj,q⟩:=h;cases ro;obtain⟨t,rfl⟩:=ri;obtain⟨its,n,r,ho,hz⟩:=I.lst hp;obtain⟨h1,h2,h3,h4⟩:=GP hj;have hl:=r.length;have hn:=nO;have I':Inv X pins σ (upd H p (.lst (xs.set j v))) {s with heap:=s.heap.update p (C7 (·.setIfInBounds j u))}:=
  I.lstUpd hp ho (OQ its n j u) (r.set rv j) (by rw[Dt];exact hz) s.toks
 by_cases h0:0<=k
 ·have hk:k.toNat=j:=by
   rw[seqIndex_of h0 h4]at h1;exact B3 h1
  exact PySem.W.ki_setAt ho h0 ⋯ (by rw[Bb,<-hl];exact h4) (by rw[hk];exact⟨_,I',q⟩)
 ·have hk:(k+(its.toArray.size:Int)).toNat=j:=by
   rw[seqIndex_neg ⋯ h3]at h1;rw[Bb,<-hl];exact B3 h1
  exact PySem.W.ki_setBack ho ⋯ (by rw[Bb,<-hl];exact h3) ⋯ (by rw[hk];exact⟨_,I',q⟩)
theorem MT(lo hi)(n):(G1 lo hi af n).1=((HT.sIx n 0 lo:Nat):Int)/\(G1 lo hi af n).2.1=((HT.sIx n n hi:Nat):Int)/\(G1 lo hi af n).2.2=1:=by
 refine⟨?_,?_,rfl⟩
 ·cases lo with
  |none=>simp[G1,HT.sIx]
  |some i=>
   simp only[G1,HT.sIx,Option.getD_none,show(1:Int) > 0 by decide,if_true];by_cases h:i < 0
   ·simp only[h,if_true]<;>omega
   ·simp only[h,if_false]<;>omega
 ·cases hi with
  |none=>simp[G1,HT.sIx]
  |some i=>
   simp only[G1,HT.sIx,Option.getD_none,show(1:Int) > 0 by decide,if_true];by_cases h:i < 0
   ·simp only[h,if_true]<;>omega
   ·simp only[h,if_false]<;>omega
theorem QN(its:List Aj)(lo hi):slicePick its.toArray lo hi af=((its.drop (HT.sIx its.length 0 lo)).take (HT.sIx its.length its.length hi-HT.sIx its.length 0 lo)).toArray:=by
 obtain⟨h1,h2,h3⟩:=MT lo hi its.toArray.size;unfold slicePick;rw[h1,h2,h3];simp only[sliceRange_one,pick_run,Bb]<;>rfl
def pV(K:Ag):V->Option Int->Option Int->Hp->VK->Prop:=λx lo hi H Q=>∃a xs,x=.ref a/\SqL K H a xs/\∀p,H p=af->Q (.ref p) (upd H p (.lst (fi xs lo hi)))
theorem Hz:SlR X (pV X.K):=by
 intro pins s σ H x v vl vu lo hi sl Q I rx hs pl pu h;obtain⟨a,xs,rfl,hx,q⟩:=h;cases rx;obtain⟨its,r,ht,hz⟩:=I.list hx;have hlen:=r.length;refine⟨"list",_,slot_list_getitem.lookup,ht.isList.typeIs,?_⟩;refine wpAny_getItem_list_slice ht.isList hs pl pu .none (by simp) ?_ (by rw[Bb]<;>omega);rw[QN,<-hlen];refine⟨.ref s.heap.objs.size,_,I.laid (t':=s.toks) (o:=.lst (fi xs lo hi)) (λb ob q=>Ai _ q) (Ay _) ?_,rfl,q _ (I.hok.fresh (Ay _))⟩;exact⟨A4 (sW xs lo hi) hz,_,0,(r.drop (HT.sIx xs.length 0 lo)).take (HT.sIx xs.length xs.length hi-HT.sIx xs.length 0 lo),Ba _ rfl⟩
def jK:V->Bool
 |.non=>ah
 |.bl _=>ah
 |.int _=>ah
 |.str _=>ah
 |_=>ai
def j1:V->V->Bool
 |.non,.non=>ah
 |.bl a,.bl b=>a==b
 |.bl a,.int b=>(if a then 1 else 0)==b
 |.int a,.bl b=>a==(if b then 1 else 0)
 |.int a,.int b=>a==b
 |.str a,.str b=>a==b
 |_,_=>ai
theorem Ou(ry:RelV y u)(rx:RelV x v)(fy:jK y=ah)(fx:jK x=ah):SeqAt.EqAt A s u v (j1 y x):=by
 cases y with
 |non=>
  cases ry;cases x with
  |non=>cases rx;exact SeqAt.EqAt.same _
  |bl b=>cases rx;exact SeqAt.EqAt.none_bool b
  |int b=>obtain⟨t,rfl⟩:=rx;exact SeqAt.EqAt.none_int b t
  |str b=>obtain⟨t,rfl⟩:=rx;exact SeqAt.EqAt.none_str b t
  |_=>exact absurd (show ai=ah from fx) Al
 |bl a=>
  cases ry;cases x with
  |non=>cases rx;exact SeqAt.EqAt.bool_none a
  |bl b=>cases rx;exact SeqAt.EqAt.bool_bool a b
  |int b=>obtain⟨t,rfl⟩:=rx;exact SeqAt.EqAt.bool_int a b t
  |str b=>obtain⟨t,rfl⟩:=rx;exact SeqAt.EqAt.bool_str a b t
  |_=>exact absurd (show ai=ah from fx) Al
 |int a=>
  obtain⟨t',rfl⟩:=ry;cases x with
  |non=>cases rx;exact SeqAt.EqAt.int_none a t'
  |bl b=>cases rx;exact SeqAt.EqAt.int_bool a t' b
  |int b=>obtain⟨t,rfl⟩:=rx;exact SeqAt.EqAt.int_int a t' b t
  |str b=>obtain⟨t,rfl⟩:=rx;exact SeqAt.EqAt.int_str a t' b t
  |_=>exact absurd (show ai=ah from fx) Al
 |str a=>
  obtain⟨t',rfl⟩:=ry;cases x with
  |non=>cases rx;exact SeqAt.EqAt.str_none a t'
  |bl b=>cases rx;exact SeqAt.EqAt.str_bool a t' b
  |int b=>obtain⟨t,rfl⟩:=rx;exact SeqAt.EqAt.str_int a t' b t
  |str b=>obtain⟨t,rfl⟩:=rx;exact SeqAt.EqAt.str_str a t' b t
  |_=>exact absurd (show ai=ah from fx) Al
 |_=>exact absurd (show ai=ah from fy) Al
def gN(x:V)(u:Aj):Bool:=match u with
 |.none=>j1 .non x
 |.bool b=>j1 (.bl b) x
 |.int i _=>j1 (.int i) x
 |.str z _=>j1 (.str z) x
 |_=>ai
theorem GQ(r:RelV y u)(f:jK y=ah):gN x u=j1 y x:=by
 cases y with
 |non=>cases r;rfl
 |bl b=>cases r;rfl
 |int i=>obtain⟨t,rfl⟩:=r;rfl
 |str z=>obtain⟨t,rfl⟩:=r;rfl
 |_=>exact absurd (show ai=ah from f) Al
theorem qA:∀{xs:List V}{us:List Aj},Vals xs us->xs.all jK=ah->us.any (gN x)=xs.any λy=>j1 y x
 |_,_,.nil,_=>rfl
 |y::xs,u::us,.cons r t,f=>by
  rw[List.all_cons,Ak]at f;rw[Fk,Fk,GQ r f.1,qA t f.2]
theorem pU(rx:RelV x v)(fx:jK x=ah):∀{xs:List V}{us:List Aj},Vals xs us->xs.all jK=ah->∀u∈us,SeqAt.EqAt A s u v (gN x u)
 |_,_,.nil,_=>λu hu=>by cases hu
 |y::xs,u::us,.cons r t,f=>λu' hu=>by
  rw[List.all_cons,Ak]at f;rcases Aq.mp hu with rfl|hu
  ·rw[GQ r f.1];exact Ou r rx f.1 fx
  ·exact pU rx fx t f.2 u' hu
def sy(x:V)(xs:List V):Bool:=xs.any λy=>j1 y x
def kj(K:Ag)(neg:Bool):R2:=λx y H Q=>∃p xs,y=.ref p/\(SqL K H p xs\/SqT K H p xs)/\jK x=ah/\xs.all jK=ah/\Q (.bl (if neg then !sy x xs else sy x xs)) H
theorem RS:OpR X (B4 .In) (kj X.K ai):=by
 intro pins s σ H x y v u Q I rx ry h;obtain⟨p,xs,rfl,hq,fx,fs,q⟩:=h;cases ry;rcases hq with hq|hq
 ·obtain⟨its,r,pl,hz⟩:=I.list hq;refine SeqAt.in_listAt (gN x) pl.isList (λw hw=>pU rx fx r fs w (by simpa using hw)) ⟨.bl _,H,I,rfl,?_⟩;rw[show its.toArray.any (gN x)=its.any (gN x) by simp,qA r fs];exact q
 ·obtain⟨its,r,pl,hz⟩:=I.tuple hq;refine SeqAt.in_tupleAt (gN x) pl (λw hw=>pU rx fx r fs w (by simpa using hw)) ⟨.bl _,H,I,rfl,?_⟩;rw[show its.toArray.any (gN x)=its.any (gN x) by simp,qA r fs];exact q
theorem Xr:OpR X (B4 .NotIn) (kj X.K ah):=by
 intro pins s σ H x y v u Q I rx ry h;obtain⟨p,xs,rfl,hq,fx,fs,q⟩:=h;cases ry;rcases hq with hq|hq
 ·obtain⟨its,r,pl,hz⟩:=I.list hq;refine SeqAt.notIn_listAt (gN x) pl.isList (λw hw=>pU rx fx r fs w (by simpa using hw)) ⟨.bl _,H,I,rfl,?_⟩;rw[show its.toArray.any (gN x)=its.any (gN x) by simp,qA r fs];exact q
 ·obtain⟨its,r,pl,hz⟩:=I.tuple hq;refine SeqAt.notIn_tupleAt (gN x) pl (λw hw=>pU rx fx r fs w (by simpa using hw)) ⟨.bl _,H,I,rfl,?_⟩;rw[show its.toArray.any (gN x)=its.any (gN x) by simp,qA r fs];exact q
theorem sq:CallR X (.builtin "len") (λxs H Q=>∃p ys,xs=[.ref p]/\(SqL X.K H p ys\/SqT X.K H p ys)/\Q (.int ys.length) H):=by
 intro pins s σ H xs us Q I r h;obtain⟨p,ys,rfl,hq,q⟩:=h;obtain⟨u,rfl,rx⟩:=i5 r;cases rx;have hn:=nO;rcases hq with hq|hq
 ·obtain⟨its,r',pl,hz⟩:=I.list hq;have hlen:=r'.length;exact Calls.call_len_list pl.isList (by simp only[Bb]<;>omega) ⟨.int ys.length,H,I.tok _,⟨s.toks+1,by rw[Bb,hlen]⟩,q⟩
 ·obtain⟨its,r',pl,hz⟩:=I.tuple hq;have hlen:=r'.length;exact len_tuple pl (by simp only[Bb]<;>omega) ⟨.int ys.length,H,I.tok _,⟨s.toks+1,by rw[Bb,hlen]⟩,q⟩
theorem call_len_str:CallR X (.builtin "len") (λxs H Q=>∃z,xs=[.str z]/\z.length<=A6/\Q (.int z.length) H):=by
 intro pins s σ H xs us Q I r h;obtain⟨z,rfl,hz,q⟩:=h;obtain⟨u,rfl,t,rfl⟩:=i5 r;have hn:=nO;exact len_str ⋯ ⟨.int z.length,H,I.tok _,⟨_,rfl⟩,q⟩
theorem CallR.or(h:CallR X f r)(h':CallR X f r'):CallR X f (λxs H Q=>r xs H Q\/r' xs H Q):=by
 intro pins s σ H xs us Q I rs q;rcases q with q|q
 ·exact h pins s σ H xs us Q I rs q
 ·exact h' pins s σ H xs us Q I rs q
theorem Px:CallR X (.type "list") (λxs H Q=>∃p ys,xs=[.ref p]/\(SqL X.K H p ys\/SqT X.K H p ys)/\∀l,H l=af->Q (.ref l) (upd H l (.lst ys))):=by
 intro pins s σ H xs us Q I r h;obtain⟨p,ys,rfl,hq,q⟩:=h;obtain⟨u,rfl,rx⟩:=i5 r;cases rx;have fin:∀(its:List Aj),Vals ys its->ys.length<=A6->∀(h':Heap)(c':Nat),(∀b o',s.heap.get? b=ae o'->h'.get? b=ae o')->
   h'.get? s.heap.objs.size=ae {cls:=.type "list",dict:=af,data:=.seq its.toArray c',slots:=#[]}->EP X pins σ Q (.ref s.heap.objs.size) {s with heap:=h'}:=λits r' hz h' c' kp e=>
  ⟨.ref s.heap.objs.size,_,I.laid (t':=s.toks) kp (Ay _) (show ObjOk X.prog X.w _ h' _ (.lst ys)from⟨hz,its,c',r',e⟩),rfl,q _ (I.hok.fresh (Ay _))⟩
 rcases hq with hq|hq
 ·obtain⟨its,r',pl,hz⟩:=I.list hq;have hlen:=r'.length;obtain⟨o,ho,hc,n,hd⟩:=pl.isList;exact call_list_seq p (.inl rfl) ho hc hd (λh' c' kp e=>fin its r' hz h' c' kp e) (by simp only[Bb]<;>omega)
 ·obtain⟨its,r',pl,hz⟩:=I.tuple hq;have hlen:=r'.length;obtain⟨o,ho,hc,n,hd⟩:=pl;exact call_list_seq p (.inr rfl) ho hc hd (λh' c' kp e=>fin its r' hz h' c' kp e) (by simp only[Bb]<;>omega)
theorem Oy:CallR X (.type "tuple") (λxs H Q=>∃p ys,xs=[.ref p]/\((SqL X.K H p ys/\∀l,H l=af->Q (.ref l) (upd H l (.tup ys)))\/(SqT X.K H p ys/\Q (.ref p) H))):=by
 intro pins s σ H xs us Q I r h;obtain⟨p,ys,rfl,h⟩:=h;obtain⟨u,rfl,rx⟩:=i5 r;cases rx;rcases h with⟨hq,q⟩|⟨hq,q⟩
 ·obtain⟨its,r',pl,hz⟩:=I.list hq;have hlen:=r'.length;refine call_tuple_list pl.isList (λh' kp=>?_) (by simp only[Bb]<;>omega);have I1:Inv X pins σ H {s with heap:=h'}:=I.kept (t':=s.toks) kp;have I2:Inv X pins σ (upd H h'.objs.size (.tup ys)) {s with heap:=h'.push {cls:=.type "tuple",data:=.seq its.toArray}}:=
   I1.laid (t':=s.toks) (λb o e=>Ai _ e) (Ay _) (show ObjOk X.prog X.w _ _ _ (.tup ys)from⟨hz,its,r',IsTupP.new _ _⟩)
  exact⟨.ref h'.objs.size,_,I2,rfl,q _ (I1.hok.fresh (Ay _))⟩
 ·obtain⟨its,r',pl,hz⟩:=I.tuple hq;exact call_tuple_same pl ⟨.ref p,H,I,rfl,q⟩
def Kb(K:Ag)(T:String)(x:V)(H:Hp):Prop:=match x with
 |.str _=>T="str"
 |.int _=>T="int"
 |.ref p=>(T="list"/\∃xs,SqL K H p xs)\/(T="tuple"/\∃o,K.lookup p=ae o/\o.cls=.type "tuple"/\o.dict=af) \/
   (T="dict"/\((∃kvs,H p=ae (.dK kvs))\/∃kvs,H p=ae (.dT kvs)))\/(T="set"/\∃S n,H p=ae (.set S n))
 |_=>False
theorem YV{σ:St}(I:Inv X pins σ H s)(r:RelV x v)(ty:Kb X.K T x H):
  s.TypeIs v T/\∀a,v=.ref a->∃ob,s.heap.get? a=ae ob/\ob.dict=af:=by
 cases x with
 |str z=>
  obtain⟨t,rfl⟩:=r;cases(show T="str" from ty);exact⟨typeIs_str s z t,λ_ e=>nomatch e⟩
 |int i=>
  obtain⟨t,rfl⟩:=r;cases(show T="int" from ty);exact⟨typeIs_int s i t,λ_ e=>nomatch e⟩
 |ref p=>
  cases r;rcases ty with⟨rfl,xs,hq⟩|⟨rfl,o,hk,hc,hd⟩|⟨rfl,hk⟩|⟨rfl,S,n,hk⟩
  ·obtain⟨its,_,pl,_⟩:=I.list hq;refine⟨pl.isList.typeIs,λa e=>?_⟩;cases e;obtain⟨o,n,e,c,hd,_⟩:=pl;exact⟨o,e,hd⟩
  ·refine⟨⟨o,I.kIn p o hk,hc⟩,λa e=>?_⟩;cases e;exact⟨o,I.kIn _ o hk,hd⟩
  ·have z:∃o,s.heap.get? p=ae o/\o.ExactDict:=by
    rcases hk with⟨kvs,hk⟩|⟨kvs,hk⟩
    ·obtain⟨_,_,_,_,o,_,_,e,ex,_⟩:=I.hok p _ hk;exact⟨o,e,ex⟩
    ·obtain⟨_,_,_,_,o,_,_,e,ex,_⟩:=I.hok p _ hk;exact⟨o,e,ex⟩
   obtain⟨o,e,ex⟩:=z;refine⟨⟨o,e,ex.1⟩,λa e2=>?_⟩;cases e2;exact⟨o,e,ex.2.1⟩
  ·obtain⟨o,_,_,_,e,ex,_⟩:=I.hok p _ hk;refine⟨⟨o,e,ex.1⟩,λa e2=>?_⟩;cases e2;exact⟨o,e,ex.2.1⟩
 |_=>exact False.elim ty
def jB(K:Ag)(T:String)(r:V->List V->Hp->VK->Prop)(to:TE)(t:TA):TE:=λσ H Q=>to σ H λx H1=>Kb K T x H1/\t σ H1 λxs H2=>r x xs H2 Q
variable{o e:Expr}{es:List Expr}{to:TE}{t:TA}{name:Str}{apos cpos:Pos}{T id:String}{r:V->List V->Hp->VK->Prop}
theorem ml(pa:PlainAttrs T)(slot:Slot T name id)(hty:typeOf (.builtin id)=pure (.type "method_descriptor"))(hm:rm X id r)(ho:PE X o to)(ha:PA X (e::es) t)
  (hbase:E6 o name X.env (eval o X.env)=eval o X.env:=by rfl)
  (hfew:((Df cpos (A8 (e::es) X.env)).all (λx=>!x.1)&&(backToKw cpos (F7 [] X.env)).all (λx=>x.1.isSome)
   && decide ((e::es).length+([]:List Fb).length+(if ([]:List Fb).isEmpty then 0 else 1) < 30))=ah:=by rfl)
  (hline:(apos.endLine==cpos.line)=ah:=by rfl) (hs:A8 (e::es) X.env=(ai,eval e X.env)::A8 es X.env:=by rfl) (hplain:(Df cpos (A8 es X.env)).any (·.1)=ai:=by rfl):
  PE X (.Call (.Attribute o name apos) (e::es) [] cpos) (jB X.K T r to t):=by
 intro pins s σ H Q I h;refine wpAny_Call_method_late hbase hfew hline rfl (bh (ho pins s σ H _ I h) λv s1 ⟨x,H1,I1,r1,ty,q1⟩=>?_);obtain⟨h1,h2⟩:=YV I1 r1 ty;refine⟨T,id,pa,slot,hty,h1,h2,?_⟩;have hA:=ha cpos pins s1 σ H1 _ I1 q1;rw[hs]at hA ⊢;refine Calls.callWith_builtin (by show(ai || (Df cpos (A8 es X.env)).any (·.1))=ai;rw[hplain]<;>rfl) (Calls.evalArgs_plain ?_);exact bh hA λus s2 ⟨vs,H2,I2,r2,q2⟩=>hm pins s2 σ H2 x vs v us Q I2 r1 r2 q2
end
def yB(X:Cx)(id:String)(r:V->List V->Hp->VK->Prop):Prop:=
 ∀(pins:List (Addr×Obj))(s:Ao)(σ:St)(H:Hp)(x:V)(xs:List V)(v:Aj)(us:List Aj)(Q:VK),Inv X pins σ H s->RelV x v->Vals xs us->r x xs H Q->
  Bd (Bn X.prog X.w) X.A (call (.builtin id) (v::us)) (EP X pins σ Q) X.xe s
theorem Vals.one:∀{x:V}{us:List Aj},Vals [x] us->∃u,us=[u]/\RelV x u
 |_,_,.cons r .nil=>⟨_,rfl,r⟩
theorem Vals.zero:∀{us:List Aj},Vals [] us->us=[]
 |_,.nil=>rfl
section
variable{X:Cx}{pins:List (Addr×Obj)}{σ:St}{H:Hp}{s:Ao}{l b:Addr}{xs ys zs:List V}
theorem Inv.lset{its its':List Aj}(I:Inv X pins σ H s)(hH:H l=ae (.lst xs))
  (e:s.heap.get? l=ae {cls:=.type "list",data:=.seq its.toArray n}) (hf:f its.toArray=its'.toArray) (hv:Vals ys its') (hz:ys.length<=A6):
  Inv X pins σ (upd H l (.lst ys)) {s with heap:=s.heap.update l (C7 f),toks:=t'}:=by
 have q:=PySem.IsL.update e f;rw[hf]at q;refine I.write (x:=l) (e:=l) (by rw[hH];exact trivial) (.inl rfl) (λb' u hb hu=>(Ed s.heap (C7 f) (Ne.symm hb)).trans hu) ⟨_,q⟩ ?_;exact⟨hz,its',_,hv,q⟩
theorem Inv.lnew(I:Inv X pins σ H s)(hv:Vals ys its)(hz:ys.length<=A6):
  Inv X pins σ (upd H s.heap.objs.size (.lst ys)) {s with heap:=s.heap.push {cls:=.type "list",data:=.seq its.toArray},toks:=t'}:=
 I.laid (λ_ _ q=>Ai _ q) (Ay _) ⟨hz,its,0,hv,Ba _ rfl⟩
theorem Inv.fresh(I:Inv X pins σ H s):H s.heap.objs.size=af:=I.hok.fresh (Ay _)
theorem Inv.lstM(I:Inv X pins σ H s)(hH:H l=ae (.lst xs)):xs.length<=A6/\∃(its:List Aj)(n:Nat),Vals xs its/\xs.length=its.length/\s.heap.get? l=ae {cls:=.type "list",data:=.seq its.toArray n}:=by
 obtain⟨z,its,n,r,e⟩:=I.hok l _ hH;exact⟨z,its,n,r,r.length,e⟩
theorem HE(h:n<=A6):Ei n=ai:=by
 unfold Ei;exact decide_eq_false ⋯
end
section
variable{X:Cx}
def yp:V->List V->Hp->VK->Prop:=λx vs H Q=>∃l xs y,x=.ref l/\vs=[y]/\H l=ae (.lst xs)/\xs.length < A6/\Q .non (upd H l (.lst (xs++[y])))
theorem rZ:yB X "list.append" yp:=by
 intro pins s σ H x vs v us Q I rx rv h;obtain⟨l,xs,y,rfl,rfl,hH,hz,q⟩:=h;cases rx;obtain⟨u,rfl,ru⟩:=rv.one;obtain⟨z,its,n,r,hl,e⟩:=I.lstM hH;refine call_meets F.slot_list_append ⟨_,e,rfl⟩ F.entry_list_append (F.args_list_append_2 _ _) (PySem.list_append l its.toArray n u (by rw[Bb];omega)) ⟨e,?_⟩;refine⟨.non,_,I.lset (its':=its++[u]) hH e (by simp) (r.append (.cons ru .nil)) ?_,rfl,q⟩;rw[Ah,As];omega
def CZ:V->List V->Hp->VK->Prop:=λx vs H Q=>∃l b xs zs,x=.ref l/\vs=[.ref b]/\H l=ae (.lst xs)/\H b=ae (.lst zs)/\xs.length+zs.length<=A6/\Q .non (upd H l (.lst (xs++zs)))
theorem LQ:yB X "list.extend" CZ:=by
 intro pins s σ H x vs v us Q I rx rv h;obtain⟨l,b,xs,zs,rfl,rfl,hH,hB,hz,q⟩:=h;cases rx;obtain⟨u,rfl,ru⟩:=rv.one;cases ru;obtain⟨z,its,n,r,hl,e⟩:=I.lstM hH;obtain⟨z2,its2,n2,r2,hl2,e2⟩:=I.lstM hB;have hsz:its.toArray.size+its2.toArray.size<=A6:=by rw[Bb,Bb];omega
 have hlong:¬(!its.toArray.isEmpty&&Ei (its.toArray.size+its2.toArray.size))=ah:=by
  rw[HE hsz,Gm];exact Al
 refine call_meets F.slot_list_extend ⟨_,e,rfl⟩ F.entry_list_extend (F.args_list_extend_2 _ _)
  (AutoSeq1.list_extend_list_list_0 l its.toArray n b its2.toArray n2 hlong (by rw[Bb];omega) ⋯) ⟨e,e2,?_⟩
 refine⟨.non,_,I.lset (its':=its++its2) hH e (by simp) (r.append r2) ?_,rfl,q⟩;rw[Ah];omega
def iY:R2:=λx y H Q=>∃l b xs zs,x=.ref l/\y=.ref b/\H l=ae (.lst xs)/\H b=ae (.lst zs)/\xs.length+zs.length<=A6/\∀p,H p=af->Q (.ref p) (upd H p (.lst (xs++zs)))
theorem zW:OpR X (Fd .Add) iY:=by
 intro pins s σ H x y v u Q I rx ry h;obtain⟨l,b,xs,zs,rfl,rfl,hH,hB,hz,q⟩:=h;cases rx;cases ry;obtain⟨z,its,n,r,hl,e⟩:=I.lstM hH;obtain⟨z2,its2,n2,r2,hl2,e2⟩:=I.lstM hB;refine PySem.P.add_list e e2 ?_ (by rw[Bb,Bb];omega);have ea:its.toArray++its2.toArray=(its++its2).toArray:=by simp
 rw[ea];exact⟨.ref _,_,I.lnew (t':=s.toks) (r.append r2) (by rw[Ah];omega),rfl,q _ I.fresh⟩
end
section
variable{κ:Type}[DecidableEq κ]
def dC(kvs:List (κ×V))(k:κ):Option V:=(kvs.find? λkv=>decide (kv.1=k)).map (·.2)
def dG(kvs:List (κ×V))(k:κ)(v:V):List (κ×V):=
 if (kvs.any λkv=>decide (kv.1=k))=ah then kvs.map (λkv=>if kv.1=k then(kv.1,v)else kv)else kvs++[(k,v)]
theorem Lh{p:κ×V}(e:p.1=k):dC (p::r) k=ae p.2:=by simp[dC,Du,e]
theorem Lg{p:κ×V}(e:¬p.1=k):dC (p::r) k=dC r k:=by simp[dC,Du,e]
theorem SH(kvs:List (κ×V))(k)(v):(dG kvs k v).length<=kvs.length+1:=by
 unfold dG
 split
 ·rw[Ab];omega
 ·rw[Ah,Am,Dc];omega
theorem KV.val(r:KV kvs vs)(k:κ):RelO (dC kvs k) (valueAt vs k):=by
 unfold KV at r
 induction r with
 |nil=>exact Gc
 |@cons p q ps qs h t ih=>
  obtain⟨h1,h2⟩:=h;by_cases e:p.1=k
  ·have e':q.1=k:=h1.symm.trans e;have b:valueAt (q::qs) k=ae q.2:=by simp[valueAt,Du,e']
   rw[Lh e,b];exact h2
  ·have e':¬q.1=k:=λz=>e (h1.trans z);have b:valueAt (q::qs) k=valueAt qs k:=by simp[valueAt,Du,e']
   rw[Lg e,b];exact ih
theorem KV.any(r:KV kvs vs)(k:κ):(kvs.any λkv=>decide (kv.1=k))=vs.any λkv=>decide (kv.1=k):=by
 unfold KV at r
 induction r with
 |nil=>rfl
 |cons h t ih=>rw[Fk,Fk,ih,h.1]
theorem KV.repl(r:KV kvs vs)(k:κ)(ry:RelV y u):
  KV (kvs.map λkv=>if kv.1=k then(kv.1,y)else kv) (vs.map λkv=>if kv.1=k then(kv.1,u)else kv):=by
 unfold KV at r ⊢
 induction r with
 |nil=>exact .nil
 |@cons p q ps qs h t ih=>
  rw[A3,A3];refine .cons ?_ ih;obtain⟨h1,h2⟩:=h;by_cases e:p.1=k
  ·rw[if_pos e,if_pos (h1.symm.trans e)];exact⟨h1,ry⟩
  ·rw[if_neg e,if_neg (λz=>e (h1.trans z))];exact⟨h1,h2⟩
theorem KV.put(r:KV kvs vs)(k:κ)(ry:RelV y u):KV (dG kvs k y) (stored vs k u):=by
 unfold dG stored;rw[r.any k];by_cases e:(vs.any λkv=>decide (kv.1=k))=ah
 ·rw[if_pos e,if_pos e];exact r.repl k ry
 ·rw[if_neg e,if_neg e];exact Paired.snoc r ⟨rfl,ry⟩
end
theorem uF(r:RelV (kV k) u):(fP P w).is k u=ah:=by
 cases k with
 |inl i=>obtain⟨t,e⟩:=(show ∃t,u=Value.int i t from r);subst e;exact Wj P w i t
 |inr x=>obtain⟨t,e⟩:=(show ∃t,u=D7 x t from r);subst e;exact Tw P w x t
theorem GY:∀{ks:List bg}{us:List Aj},Vals (ks.map kV) us->ItemsAre (fP P w) ks us
 |[],_,r=>by rw[Bo]at r;cases r;exact .nil
 |k::ks,_,r=>by
  rw[A3]at r;cases r with
  |cons h t=>exact .cons (uF h) (GY t)
abbrev KT(H:Hp):List (List bg×V)->List (List bg×Addr×Aj)->Prop:=Paired λp q=>p.1=q.1/\H q.2.1=ae (.tup (p.1.map kV))/\RelV p.2 q.2.2
theorem KT.val(r:KT H kvs xs)(k):RelO (dC kvs k) ((atKey xs k).map (·.2)):=by
 induction r with
 |nil=>exact Gc
 |@cons p q ps qs h t ih=>
  obtain⟨h1,_,h2⟩:=h;by_cases e:p.1=k
  ·have e':q.1=k:=h1.symm.trans e;have b:atKey (q::qs) k=ae q.2:=by simp[atKey,Du,e']
   rw[Lh e,b];exact h2
  ·have e':¬q.1=k:=λz=>e (h1.trans z);have b:atKey (q::qs) k=atKey qs k:=by simp[atKey,Du,e']
   rw[Lg e,b];exact ih
section
variable{P:Bs}{w:B5}{H:Hp}{h:Heap}{a:Addr}
theorem Il(ok:HOk P w H h)(e:Rd H a u):ObjOk P w H h a u:=e.ok ok
theorem zC(ok:HOk P w H h)(e:Rd H a (.dK kvs)):kvs.length<=A6/\(a==E4)=ai/\∃vs,KV kvs vs/\h.DictOf (fP P w) a vs:=
 show ObjOk P w H h a (.dK kvs)from Il ok e
theorem Qv(ok:HOk P w H h)(e:H a=ae (.dK kvs)):kvs.length<=A6/\(a==E4)=ai/\∃vs,KV kvs vs/\h.DictOf (fP P w) a vs:=zC ok (.inl e)
theorem FU(ok:HOk P w H h)(e:H a=ae (.tup (ks.map kV))):(tupleKind (fP P w)).is h ks a:=by
 obtain⟨_,its,r,o,h1,h2,⟨n,h3⟩,_⟩:=(show ObjOk P w H h a (.tup (ks.map kV))from ok a _ e);exact⟨o,its.toArray,n,h1,h2,h3,by simpa using GY r⟩
theorem JW(ok:HOk P w H h)(e:Rd H a (.dT kvs)):kvs.length<=A6/\(a==E4)=ai /\
  ∃xs,KT H kvs xs/\h.DictOfH (tupleKind (fP P w)) a xs:=by
 obtain⟨z,y,xs,r,o,es,ep,h1,h2,h3,h4,h5⟩:=(show ObjOk P w H h a (.dT kvs)from Il ok e);refine⟨z,y,xs,r,o,es,ep,h1,h2,h3,h4,λx hx=>?_,h5⟩;have all:∀{l:List (List bg×V)}{m:List (List bg×Addr×Aj)},KT H l m->∀x∈m,(tupleKind (fP P w)).is h x.1 x.2.1:=by
  intro l m q
  induction q with
  |nil=>intro x hx;exact nomatch hx
  |@cons p q ps qs hq t ih=>
   intro x hx;rcases Aq.mp hx with e|hx
   ·subst e;exact FU ok (by rw[<-hq.1];exact hq.2.1)
   ·exact ih x hx
 exact all r x hx
end
def lP(H:Hp)(a:Addr)(y:V)(r:Option V):Prop:=
 (∃kvs k,Rd H a (.dK kvs)/\y=kV k/\r=dC kvs k)\/∃kvs k b,Rd H a (.dT kvs)/\y=.ref b/\H b=ae (.tup (k.map kV))/\r=dC kvs k
section
variable{X:Cx}{pins:List (Addr×Obj)}{σ:St}{H:Hp}{s:Ao}{a:Addr}{y v:V}{u r:Aj}{o:Option V}{A:Cj}{E:Aj->Ao->Prop}
theorem Inv.big(I:Inv X pins σ H s):E4 < s.heap.objs.size:=by
 have h:Dz < s.heap.objs.size:=(I.mod.glob.keeps I.bk).lt;exact Nat.lt_trans ∎ h
theorem TX(hu:A.units+1 < cLine)(I:Inv X pins σ H s)(g:lP H a y (ae v))(ry:RelV y u)(h:∀w' s',Inv X pins σ H s'->RelV v w'->Q w' s'):
  Bd (Bn X.prog X.w) A (getItem (.ref a) u) Q E s:=by
 rcases g with⟨kvs,k,e,ey,l⟩|⟨kvs,k,b,e,ey,eb,l⟩
 ·subst ey;obtain⟨z,hd,vs,rel,dd⟩:=zC I.hok e;obtain⟨w',hw,rw'⟩:=RelO.some_of (v:=v) (o:=valueAt vs k) (by rw[l];exact rel.val k);exact wpAny_getItem_of (uF ry) dd.mapOf hw (h w' _ (I.tok _) rw')
 ·subst ey;cases(show u=B8 b from ry);obtain⟨z,hd,xs,rel,dd⟩:=JW I.hok e;obtain⟨w',hw,rw'⟩:=RelO.some_of (v:=v) (o:=(atKey xs k).map (·.2)) (by rw[l];exact rel.val k);obtain⟨p,hp,hp2⟩:=Option.map_eq_some_iff.mp hw;refine wpAny_getItem_heap (tupleKind_room_in1 hu) (FU I.hok eb) dd hp ?_;rw[hp2];exact h w' _ (I.tok _) rw'
theorem Ur(I:Inv X pins σ H s)(mu:pN (H a))(hs:Dj a s.heap h')(he:∃q,h'.get? a=ae q)(new:ObjOk X.prog X.w (upd H a ob) h' a ob):
  Inv X pins σ (upd H a ob) {s with heap:=h',toks:=t'}:=
 I.write (x:=a) (e:=a) mu (.inl rfl) (λb q hb z=>(hs.2 b hb).trans z) he new
theorem NB(z:kvs.length<=A6)(hd:(a==E4)=ai)(rel:KV kvs vs)(dd:h'.DictOf (fP P w) a vs):
  ObjOk P w H' h' a (.dK kvs):=⟨z,hd,vs,rel,dd⟩
end
def lx(i:Expr):Prop:=∀ov iv,subscripted i ai ov iv=operate [ov,iv] (getItem ov iv)
theorem WL{T id:String}
  (hl:typeLookup (.type T) "__getitem__"=pure (ae (.builtin id))) (hs:lx slice)
  (h:Bd (Bn prog w) A (eval value env) (λo s₁=>Bd (Bn prog w) A (eval slice env) (λi s₂=>s₂.TypeIs o T/\Bd (Bn prog w) A (getItem o i) Q E s₂) E s₁) E s):
  Bd (Bn prog w) A (eval (.Subscript value slice pos) env) Q E s:=by
 refine Subscript_ (Dn h (λo s₁ h₁=>Dn h₁ (λi s₂ h₂=>?_) λ_ _ x=>x) λ_ _ x=>x);obtain⟨hT,h₂⟩:=h₂;unfold subscriptTail;refine Ad ?_;rw[getitemInPython_of_ne hT.not_modules];refine Ad (wpAny_specialOf hT hl ?_);have fin:Bd (Bn prog w) A (subscripted slice ai o i) (λr s₃=>Bd (Bn prog w) A (letTemporaryGo value o r>>=λ_=>pure r) Q E s₃) E s₂:=by
  rw[hs o i];exact wpAny_operating (Dn h₂ (λr s₃ h₃=>Ad (wpAny_letTemporaryGo (Ap h₃))) λ_ _ x=>x)
 first
  |exact Ap (Ad fin)
  |exact Ad (Ap (Ad fin))
  |exact Ad fin
theorem Md{σ:St}(I:Inv X pins σ H s)(g:lP H a y o):s.TypeIs (.ref a) "dict":=by
 rcases g with⟨kvs,k,e,_,_⟩|⟨kvs,k,b,e,_,_,_⟩
 ·obtain⟨_,_,vs,_,dd⟩:=zC I.hok e;exact dd.typeIs
 ·obtain⟨_,_,xs,_,dd⟩:=JW I.hok e;exact dd.typeIs
def KO(td ty:TE):TE:=λσ H Q=>td σ H λx H1=>ty σ H1 λy H2=>∃a v,x=.ref a/\lP H2 a y (ae v)/\Q v H2
section
variable{X:Cx}{o i e value:Expr}{pos pos' tpos:Pos}{td ty tv:TE}
theorem SS(hu:X.A.units+1 < cLine)(ho:PE X o td)(hi:PE X i ty)(hs:lx i):PE X (.Subscript o i pos) (KO td ty):=by
 intro pins s σ H Q I h;refine WL PySem.F.slot_dict_getitem.lookup hs (bh (ho pins s σ H _ I h) λu s1 ⟨x,H1,I1,rx,q1⟩=>bh (hi pins s1 σ H1 _ I1 q1) λiv s2 ⟨y,H2,I2,ry,a,v,ex,g,q2⟩=>?_);subst ex;obtain rfl:u=B8 a:=rx;exact⟨Md I2 g,TX hu I2 g ry λw' s3 I3 rw'=>⟨v,H2,I3,rw',q2⟩⟩
end
theorem Vz(h:Heap)(hb:E4 < h.objs.size):ObjOk P w H (h.push {cls:=.type "dict",data:=.dict #[]}) h.objs.size (.dK []):=
 ⟨Bf _,beq_eq_false_iff_ne.mpr (Ne.symm (Bq hb)),[],.nil,Heap.DictOf.new h⟩
def tD:List (TE×TE)->St->Hp->(List (V×V)->Hp->Prop)->Prop
 |[],_,H,Q=>Q [] H
 | (tk,tv)::r,σ,H,Q=>tk σ H λx H1=>tv σ H1 λy H2=>tD r σ H2 λps H3=>Q ((x,y)::ps) H3
abbrev VV:List (V×V)->List (Aj×Aj)->Prop:=Paired λp q=>RelV p.1 q.1/\RelV p.2 q.2
def kA(X:Cx)(pos:Pos)(keys:List (Option Expr))(values:List Expr)(trs:List (TE×TE)):Prop:=
 ∀(pins:List (Addr×Obj))(s:Ao)(σ:St)(H:Hp)(Q:List (V×V)->Hp->Prop),Inv X pins σ H s->tD trs σ H Q->
  Bd (Bn X.prog X.w) X.A (evalPairs (pairTrees keys values X.env pos)) (λvs s'=>∃ps H',Inv X pins σ H' s'/\VV ps vs/\Q ps H') X.xe s
theorem Rk:kA X pos [] [] []:=λpins s σ H Q I h=>pairTrees_nil_walk ⟨[],H,I,.nil,h⟩
theorem NC(hk:PE X k tk)(hv:PE X v tv)(hr:kA X pos ks vs trs):
  kA X pos (ae k::ks) (v::vs) ((tk,tv)::trs):=λpins s σ H Q I h=>
 pairTrees_cons_walk (bh (hk pins s σ H _ I h) λu s1 ⟨x,H1,I1,rx,q1⟩=>bh (hv pins s1 σ H1 _ I1 q1) λw2 s2 ⟨y,H2,I2,ry,q2⟩=>
  bh (hr pins s2 σ H2 _ I2 q2) λws s3 ⟨ps,H3,I3,rel,q3⟩=>⟨(x,y)::ps,H3,I3,.cons ⟨rx,ry⟩ rel,q3⟩)
def jX(kvs more:List (bg×V)):List (bg×V):=more.foldl (λacc kv=>dG acc kv.1 kv.2) kvs
theorem KV.merge:∀{more:List (bg×V)}{rs:List (bg×Aj)}{kvs:List (bg×V)}{vs:List (bg×Aj)},KV more rs->KV kvs vs->KV (jX kvs more) (merged vs rs):=by
 intro more rs kvs vs r;unfold KV at r
 induction r generalizing kvs vs with
 |nil=>intro q;exact q
 |@cons p q ps qs h t ih=>
  intro r0;have e:KV (dG kvs p.1 p.2) (stored vs q.1 q.2):=by
   have:=r0.put p.1 h.2;rw[<-h.1];exact this
  exact ih e
theorem FN:∀(more kvs:List (bg×V)),(jX kvs more).length<=kvs.length+more.length
 |[],kvs=>by show kvs.length<=kvs.length+0;omega
 |p::r,kvs=>by
  have h1:=FN r (dG kvs p.1 p.2);have h2:=SH kvs p.1 p.2;show(jX (dG kvs p.1 p.2) r).length<=_;rw[Am];omega
theorem EE:∀{kvs:List (bg×V)}{ws:List (Aj×Aj)},VV (kvs.map λkv=>(kV kv.1,kv.2)) ws->∃rs,Carries (fP P w) ws rs/\KV kvs rs
 |[],_,r=>by rw[Bo]at r;cases r;exact⟨[],Gc,.nil⟩
 |p::kvs,_,r=>by
  rw[A3]at r;cases r with
  |@cons a b as bs h t=>
   obtain⟨rs,c,q⟩:=EE (P:=P) (w:=w) t;obtain⟨b1,b2⟩:=b;exact⟨(p.1,b2)::rs,⟨uF h.1,rfl,c⟩,.cons ⟨rfl,h.2⟩ q⟩
def FD(trs:List (TE×TE)):TE:=λσ H Q=>∀p,H p=af->tD trs σ (upd H p (.dK [])) λps H2=>H2 p=ae (.dK [])/\∃kvs:List (bg×V),ps=kvs.map (λkv=>(kV kv.1,kv.2))/\kvs.length<=15/\Q (.ref p) (upd H2 p (.dK (jX [] kvs)))
theorem MR(h:kA X pos keys values trs)(hall:keys.all (·.isSome)=ah)(hl:keys.length=values.length)(h0:keys≠[])
  (h15:keys.length<=15):PE X (.Dict keys values pos) (FD trs):=by
 intro pins s σ H Q I q;have hn:=I.hok.fresh (Ay s.heap.objs.size);have I1:=I.laid (a:=s.heap.objs.size) (o:=.dK []) (h':=s.heap.push {cls:=.type "dict",data:=.dict #[]}) (t':=s.toks) (λ_ _ q=>Ai _ q) (Ay _) (Vz s.heap I.big);refine wpAny_Dict_walk (knd:=fP X.prog X.w) hall hl h0 h15 (bh (h pins _ σ _ _ I1 (q _ hn)) λws s2 ⟨ps,H2,I2,rel,e,kvs,ep,lk,q2⟩=>?_);subst ep;obtain⟨rs,c,rk⟩:=EE (P:=X.prog) (w:=X.w) rel;obtain⟨z,hd,vs0,r0,dd⟩:=Qv I2.hok e;cases r0;refine⟨rs,c,dd,λh' dd' hs=>⟨.ref s.heap.objs.size,_,?_,rfl,q2⟩⟩;have hz:(jX [] kvs).length<=A6:=by
  have h1:=FN kvs [];rw[Dc]at h1;rw[Eu];omega
 have he:∃q,h'.get? s.heap.objs.size=ae q:=let⟨q,_,_,hq,_⟩:=dd';⟨q,hq⟩;exact Ur I2 (by rw[e];exact Gc) hs he (NB hz hd (rk.merge .nil) dd')
end L2
namespace Att
open PySem PySem.W PySem.Calls PyProof.Rows
theorem Sa:∀(ns:List Int)(vs:List Aj),WellAll P h vs (ns.map WData.int)->IntsAre vs ns:=by
 intro ns
 induction ns with
 |nil=>
  intro vs w;rw[Bo]at w;cases w;exact .nil
 |cons n ns ih=>
  intro vs w;rw[A3]at w;cases w with
  |cons a b=>
   cases a;exact .cons _ _ (ih _ b)
theorem L9{l:OpenLaw}(hn:l.most=ae n)
  (hpre:l.row.toRowW.claim.pre args=ah) (hwl:WellAll P h vals args):
  ∃a vs ns,vals=[B8 a]/\args=[WData.list (ns.map WData.int)]/\h.get? a=ae {cls:=.type "list",data:=.seq vs.toArray}/\IntsAre vs ns/\ns.length<=n:=by
 have hsh:WShape.hasAll [] args [.list .int]=ah:=(pre_splitW hpre).1;have hc:l.pre.holds [] {args:=args}=ah:=(pre_splitW hpre).2;obtain⟨d,r,rfl,h1,h2⟩:=hasAllW_cons hsh;obtain rfl:=hasAllW_nil h2;obtain⟨xs,rfl,h3⟩:=hasW_list h1;obtain⟨ns,rfl⟩:=items_int h3;have hlen:ns.length<=n:=by
  unfold OpenLaw.pre at hc;have h4:(WTm.not (.lt (.lit (.int (n:Int))) (.len (.arg 0)))).holds [] {args:=[.list (ns.map .int)]}=ah:=by
   have h4:=(holds_andW hc).1;rw[hn]at h4;exact h4
  have h5:=condW_of h4 (w_not (w_lt w_lit (w_len_list (w_arg rfl))));rw[Ab]at h5;refine Nat.le_of_not_lt λq=>?_;have q':(n:Int) < ((ns.length:Nat):Int):=by omega
  first
   | (rw[decide_eq_true q']at h5;exact absurd h5 ∎)
   | (simp at h5;omega)
 cases hwl with
 |cons w1 w2=>
  cases w2;cases w1 with
  |list ho hall=>exact⟨_,_,ns,rfl,rfl,ho,Sa ns _ hall,hlen⟩
theorem SM(l:OpenLaw)(args):l.row.toRowW.claim.post args (.bool ah) args=ah:=
 postW_of (r:=l.row.toRowW) (X:=(ah==ah))
  (show WShape.has [] (.bool ah) .bool=ah by first|rfl|decide|simp[WShape.has,WShape.arms,WShape.armsAll])
  (show(WTm.eq .res (.lit (.bool ah))).value [] {args:=args,res:=ae (.bool ah),after:=args}=ae (.bool (ah==ah))from w_eq_bool (w_res rfl) w_lit) rfl
theorem attach_call{l:OpenLaw}
  (hn:l.most=ae n) (hdf:d.params.defaults=[])
  (call:∀(w:B5)(s₀ s₁:Ao)(mg mb:Str->Option Aj)(fa:Addr)(o:Obj)(pm cd doc:Aj)(a:Addr)(vs:List Aj)(ns:List Int),
   Ground q loose [] XP w s₀ mg mb s₁.heap->YP w s₁.heap->
   s₁.heap.get? fa=ae o->o.data=.func (docDef d.name d.params d.body d.scope pm cd doc)->s₁.heap.CodeRec cd d.name->mg d.name=ae (.ref fa)->
   s₁.heap.get? a=ae {cls:=.type "list",data:=.seq vs.toArray}->IntsAre vs ns->ns.length<=n->s₁.gens=#[]->
   Gs (Bn l.prog w) callerA (.call (.ref fa) ⟨[.ref a],[]⟩) (λr s'=>r=.ok (.ret (.bool ah))/\OldK s₁.heap s'.heap/\s'.os=s₁.os/\AllBare s'.gens) s₁):
  WalkO q loose XP YP l.row.toRowW d [] (λf vs=>PySem.call f vs):=by
 intro w s₀ s₁ mg mb G Y fa o pm cd doc dV kV ho hd hcd hD hmg hg args vals as hpre hlay hrd hwl hlo;obtain rfl:dV=.none:=Dflts.none hD hdf;obtain rfl:kV=.none:=Dflts.noKw hD;obtain⟨a,vs,ns,rfl,rfl,hobj,hints,hlen⟩:=L9 hn hpre hwl;refine enter_call (codeAny_mono (call w s₀ s₁ mg mb fa o pm cd doc a vs ns G Y ho (fd_plain hd) hcd hmg hobj hints hlen hg) λr s' hq=>?_);obtain⟨rfl,h2,h3,h4⟩:=hq;exact⟨.inl ⟨.bool ah,.bool ah,[],rfl,λ_=>rfl,.bool ah,SM l _,λ_=>⟨List.Pairwise.nil,λ_ hm=>(nomatch hm)⟩⟩,h2,h3,h4⟩
end Att
namespace L2
open PySem PySem.Spec PyProof.Rows
theorem Hf:∀{vs:List Aj}{ns:List Int},IntsAre vs ns->Vals (ns.map V.int) vs
 |_,_,.nil=>.nil
 |_,_,.cons n t h=>.cons ⟨t,rfl⟩ (Hf h)
def lM(H:Hp):Prop:=∀b,H b=af\/∃o xs,H b=ae (.frz o (.lst xs))
theorem XJ{K:Ag}
  (KX:K.In s₁.heap) (hns:s₁.heap.Ns Dz mg) (hb:s₁.heap.Ns builtinsNs mb) (hbb:∀x:Str,x≠"__name__"->mb x=Cf x) (hlim:s₁.heap.NoLimit) (hg:s₁.gens=#[])
  (ha:s₁.heap.get? a=ae {cls:=.type "list",data:=.seq vs.toArray}) (hi:IntsAre vs ns) (hl:ns.length<=A6) (hr:Room k callerA)
  (F:∀base:Heap,K.In base->base.Ns Dz mg->FnOk P w K mg base CX k fa fd [x] sp) (hbind:∀(s:Ao)(u:Aj),BindsTo s fd ⟨[u],[]⟩ [(x,u)])
  (hsp:∀H:Hp,lM H->SqL K H a (ns.map V.int)->sp [.ref a] H (λv _=>v=.bl ah) λ_ _ _=>False)
  (hCX:∀H e s',CX [] H s₁ (λ_ _ _=>False) e s'->False):
  Gs (Bn P w) callerA (.call (.ref fa) ⟨[.ref a],[]⟩) (λr s'=>r=.ok (.ret (.bool ah))/\OldK s₁.heap s'.heap/\s'.os=s₁.os/\AllBare s'.gens) s₁:=by
 have rv:=Hf hi;have lenV:=hi.length
 have core:∀H:Hp,lM H->SqL K H a (ns.map V.int)->HOk P w H s₁.heap->(∀b,H b≠af->b=a)->(H a≠af->K.lookup a=af)->
   Gs (Bn P w) callerA (.call (.ref fa) ⟨[.ref a],[]⟩) (λr s'=>r=.ok (.ret (.bool ah))/\OldK s₁.heap s'.heap/\s'.os=s₁.os/\AllBare s'.gens) s₁:=by
  intro H hO hS hok hA hK;have base_of:∀{b:Addr}{o:Obj},s₁.heap.get? b=ae o->H b=af->(fH s₁.heap H).get? b=ae o:=λe n=>Tf e n;have noA:∀{b:Addr}{o:Obj}{es:Array DictEntry}{ep:Nat},s₁.heap.get? b=ae o->o.data=.dict es ep->H b=af:=λ{b o es ep} e d=>by
   cases q:H b with
   |none=>rfl
   |some u=>
    have e':b=a:=hA b (by rw[q];simp);subst e';rw[ha]at e;cases e;have d':Data.seq vs.toArray _=Data.dict es ep:=d;cases d'
  have nsK:∀{b:Addr}{m:Str->Option Aj},s₁.heap.Ns b m->(fH s₁.heap H).Ns b m:=λ{b m} ⟨o,es,ep,e,d,r⟩=>⟨o,es,ep,base_of e (noA e d),d,r⟩;have hKb:K.In (fH s₁.heap H):=λb o e=>base_of (KX b o e) (by
   cases q:H b with
   |none=>rfl
   |some u=>
    have e':b=a:=hA b (by rw[q];simp);subst e';rw[hK (by rw[q];simp)]at e;cases e)
  have hM:Mod K mg (fH s₁.heap H):=⟨hKb,nsK hns,⟨mb,nsK hb,hbb⟩,let⟨mc,h1,h2⟩:=hlim;⟨mc,nsK h1,h2⟩⟩;have e0:Env0 P w K mg (fH s₁.heap H) callerA [] s₁ H:=⟨rfl,hM,λb o e=>Vr e,Nat.le_of_eq (TB _ _),trivial,λb hb=>absurd (show b∈([]:List Addr)from hb) (by simp),hok,.of_eq hg⟩;refine codeAny_mono ((F _ hKb (nsK hns)).run callerA [] s₁ H ⟨[.ref a],[]⟩ [.ref a] [.ref a] _ _ hr e0 (hbind s₁ (.ref a)) (.cons rfl .nil) (hsp H hO hS)) λr s' h=>?_;cases r with
  |error e=>exact(hCX H e s' h).elim
  |ok fl=>
   cases fl with
   |next=>exact False.elim h
   |brk=>exact False.elim h
   |cont=>exact False.elim h
   |ret u=>
    obtain⟨v,H',os,bare,un,hok',r',q⟩:=h;have q':v=.bl ah:=q;subst q';obtain rfl:u=Value.bool ah:=r';refine⟨rfl,OldK.of_keep λb o e=>?_,os,bare⟩;cases q:H b with
    |none=>exact un.keep b o e q (by intro z;exact absurd (show b∈([]:List Addr)from z) (by simp)) (by simp)
    |some u=>
     rcases hO b with z|⟨ob,xs,z⟩
     ·rw[q]at z;cases z
     ·have z2:=un.frzs b ob _ z;obtain⟨e1,_⟩:=hok b _ z;obtain⟨e2,_⟩:=hok' b _ z2;rw[e]at e1;cases e1;exact e2
 cases hk:K.lookup a with
 |some o=>
  have e:=KX a o hk;rw[ha]at e;cases e;refine core (λ_=>af) (λ_=>.inl rfl) (.inr ⟨_,vs.toArray,_,hk,rfl,rfl,rfl,by rw[Bb,lenV];exact hl,by simpa using rv⟩) (λb u z=>by have z':(af:Option HO)=ae u:=z;cases z') (λb z=>absurd rfl z) λz=>absurd rfl z
 |none=>
  refine core (λb=>if b=a then ae (.frz {cls:=.type "list",data:=.seq vs.toArray} (.lst (ns.map V.int)))else af) (λb=>?_) (.inl (.inr ⟨{cls:=.type "list",data:=.seq vs.toArray},if_pos rfl⟩)) (λb u z=>?_) (λb z=>?_) λ_=>hk
  ·by_cases hb:b=a
   ·exact .inr ⟨_,_,if_pos hb⟩
   ·exact .inl (if_neg hb)
  ·by_cases hb:b=a
   ·have z':=(if_pos hb).symm.trans z;cases z';subst hb;exact⟨ha,by rw[Ab];exact hl,vs,_,rv,ha⟩
   ·have z':=(if_neg hb).symm.trans z;cases z'
  ·by_cases hb:b=a
   ·exact hb
   ·exact absurd (if_neg hb) z
theorem walk_of{l:PySem.W.OpenLaw}{K:Params->Ag}{CX:B5->jf}{sp:B5->Sp}
  (hn:l.most=ae n) (hn2:n<=A6) (hdf:d.params.defaults=[]) (hr:Room k callerA)
  (hY:∀(w:B5)(h:Heap),YP w h->(K w.params).In h)
  (F:∀(w:B5)(mg:Str->Option Aj)(fa:Addr)(h:Heap),(K w.params).In h->h.Ns Dz mg->mg d.name=ae (.ref fa)->
   ∃fd:C1,(∀(s:Ao)(u:Aj),BindsTo s fd ⟨[u],[]⟩ [(x,u)]) /\
    ∀base:Heap,(K w.params).In base->base.Ns Dz mg->FnOk l.prog w (K w.params) mg base (CX w) k fa fd [x] (sp w))
  (hsp:∀(w:B5)(H:Hp)(a:Addr)(ns:List Int),ns.length<=n->lM H->SqL (K w.params) H a (ns.map V.int)->sp w [.ref a] H (λv _=>v=.bl ah) λ_ _ _=>False)
  (hCX:∀(w:B5)(H:Hp)(s:Ao)(e:Aj)(s':Ao),CX w [] H s (λ_ _ _=>False) e s'->False):
  PySem.W.WalkO q loose XP YP l.row.toRowW d [] (λf vs=>PySem.call f vs):=by
 refine Att.attach_call hn hdf λw s₀ s₁ mg mb fa o pm cd doc a vs ns G Y ho hd hcd hmg hobj hints hlen hg=>?_;have KX:=hY w _ Y;obtain⟨fd,hb,hF⟩:=F w mg fa _ KX G.T.g hmg;exact XJ KX G.T.g G.T.b G.T.builtins G.T.nolimit hg hobj hints (A4 hlen hn2) hr hF hb (λH hO hS=>hsp w H a ns hlen hO hS) λH e s'=>hCX w H s₁ e s'
abbrev dy:jf:=λ_ _ _ _ _ _=>False
abbrev E0:XK:=λ_ _ _=>False
theorem sC:AI dy X E0:=λ_ _ _ _ _ _ _ h=>h.elim
structure Fun(K:Ag)(x qual:Str)(st:Stmt)(f:Addr)(fd:C1):Prop where
 ex:∃(oc:Aj)(od:Option Addr)(kV doc pm:Aj)(an:Option Addr)(cdv ct:Aj)(osl:Array (Option Aj)),
  fd=Fv x qual (my st) (gB st) (dh st) .none kV doc pm an cdv ct/\K.lookup f=ae ⟨oc,od,.func fd,osl⟩/\PySem.W.codeIn K cdv qual=ah
 kp:C2 K (.ref f)=ah
section
variable{P:Bs}{w:B5}{K:Ag}{mg:Str->Option Aj}{base:Heap}
theorem Fun.ok{st:Stmt}(F:Fun K x qual st f fd)(S:FnScope N ps (dh st))(len:∀vs H Q E,sp vs H Q E->vs.length=ps.length)
  (hbody:∀(cdv:Aj)(A:Cj)(outer:List Env)(s:Ao)(H:Hp)(vs:List V)(Q:VK)(E:XK),Room k (A.deeper (envOfC qual (dh st) s.heap.objs.size f cdv))->sp vs H Q E->
   ∃t,PSs (dM dy P w K mg base N qual (dh st) f cdv A outer s H E).nox (gB st) t/\t {nx:=λ_ H'=>Q .non H',rt:=Q} (start N vs) H):FnOk P w K mg base dy (k+1) f fd ps sp:=by
 obtain⟨oc,od,kV,doc,pm,an,cdv,ct,osl,rfl,lk,hcd⟩:=F.ex;refine OA lk hcd S len λA outer s H vs Q E hr hsp=>?_;obtain⟨t,h,q⟩:=hbody cdv A outer s H vs Q E hr hsp;exact⟨t,h.nox,q⟩
theorem Fun.binds{st:Stmt}(F:Fun K x qual st f fd)
  (h:∀(kV doc pm:Aj)(an:Option Addr)(cdv ct:Aj)(us:List Aj),us.length=ps.length->bindArgs (Fv x qual (my st) (gB st) (dh st) .none kV doc pm an cdv ct) ⟨us,[]⟩=pure (ps.zip us)):Binds K fd ps []:=by
 obtain⟨oc,od,kV,doc,pm,an,cdv,ct,osl,rfl,lk,hcd⟩:=F.ex;exact .all (h kV doc pm an cdv ct)
theorem Sx{st:Stmt}{kV doc pm cdv ct:Aj}(l:K.lookup f=ae ⟨oc,od,.func (Fv x qual (my st) (gB st) (dh st) .none kV doc pm an cdv ct),osl⟩)
  (c:PySem.W.codeIn K cdv qual=ah) (k:C2 K (.ref f)=ah):Fun K x qual st f (Fv x qual (my st) (gB st) (dh st) .none kV doc pm an cdv ct):=⟨⟨oc,od,kV,doc,pm,an,cdv,ct,osl,rfl,l,c⟩,k⟩
end
theorem K5(h:n<=1000):n < A6:=Fg h ∎
section
variable{X:Cx}
theorem pv(i){pos:Pos}(hN:X.N[i]?=ae x:=by rfl)(hv:gT X.env.scope x:=by first|exact Dr rfl|exact Cw (Dr rfl)|exact Cw (Cw rfl))(hd:(x==("__debug__":Str))=ai:=by decide)
  (hcd:(x==("__classdict__":Str))=ai:=by decide):PE X (.Name x pos) (b9 i):=jw hN hv hd hcd
end
theorem vX{A B:Prop}(h:B):if ai=ah then A else B:=by
 rw[if_neg Al];exact h
theorem ki{c A B:Prop}[Decidable c](h1:c->A)(h2:¬c->B):if c then A else B:=by
 by_cases h:c
 ·rw[if_pos h];exact h1 h
 ·rw[if_neg h];exact h2 h
def qF(H H':Hp):Prop:=∀b o,H b=ae o->H' b=ae o
end L2
namespace L2
open PySem PySem.Spec PyProof.Rows
section
variable{prog:Bs}{w:B5}{A:Cj}{R:Result->Ao->Prop}{s:Ao}
theorem EI(I:Nat->Ao->Prop)
  (turn:∀n s,I n s->Bd (Bn prog w) A (E5 it) (λr s₁=>match r with
   |none=>R (.ok .next) s₁
   |some v=>Bd (Bn prog w) A (letOwnedTupleGo target it v) (λ_ s₁'=>Bd (Bn prog w) A (assign target env v) (λ_ s₂=>
     Bd (Bn prog w) A (forIn ifs ah λc r=>if r=ah then do let ok <-isTrue c env (eval c env);pure (ForInStep.yield ok)else pure (ForInStep.yield r)) (λok s₃=>
      if ok=ah then Bd (Bn prog w) A (eval elt env) (λx s₄=>
       Bd (Bn prog w) A (call (.builtin "list.append") [acc,x]) (λ_ s₅=>∃m,m < n/\I m s₅) (λ_ _=>False) s₄) (λ_ _=>False) s₃
      else ∃m,m < n/\I m s₃) (λ_ _=>False) s₂) (λ_ _=>False) s₁') (λ_ _=>False) s₁) (λ_ _=>False) s)
  (n) (h:I n s):Gs (Bn prog w) A (.compLoop (.ListComp elt [⟨target,iter,ifs,0⟩] scope pos) 0 it acc env) R s:=by
 refine codeAny_loop rfl I (λn s hI=>?_) n h;show Bd _ A ((compTurn (.ListComp elt [⟨target,iter,ifs,0⟩] scope pos) 0 it acc env).onRaise (λx=>do noteFrame x env;theTreesLotGoes x)) _ _ s;refine wpAny_noted ?_;rw[compTurn_list];refine Ad (wpAny_standAt (Ad (Dn (turn n s hI) (λr s₁ h₁=>?_) λ_ _ f=>f.elim)));cases r with
 |none=>exact Ap h₁
 |some v=>
  refine Ad (Dn h₁ (λ_ s₁' h₁'=>?_) λ_ _ f=>f.elim);refine Ad (Dn h₁' (λ_ s₂ h₂=>Ad (Dn h₂ (λok s₃ h₃=>?_) λ_ _ f=>f.elim)) λ_ _ f=>f.elim);cases ok with
  |false=>exact Ap ⟨rfl,h₃⟩
  |true=>
   exact Ad (Ad (Dn h₃ (λx s₄ h₄=>Ad (Dn h₄ (λ_ s₅ h₅=>Ap (Ap ⟨rfl,h₅⟩)) λ_ _ f=>f.elim)) λ_ _ f=>f.elim))
end
def dj(X:Cx)(N:List Str)(scope:Fl)(cl:List (Str×Addr))(s:Ao)(H:Hp)(fp:List Addr):Cx:=
 { X with N:=N,s₀:=s,H₀:=H,env:=compEnvC scope cl s.heap.objs.size X.env,outer:=X.stack,ex:=fp,fn:=λ_=>ai,pn:=[],xe:=λ_ _=>False}
structure CompSc(X:Cx)(N:List Str)(scope:Fl)(cl:List (Str×Addr))(fr:List (Option Nat)):Prop where
 clos:closureFor scope X.env=pure cl
 kind:scope.kind=.function
 nocell:∀y∈scope.names,y.2≠.cell
 names:∀y∈scope.names,y.2=.local->scope.names.lookup y.1=ae .local
 sub:∀x c,cl.lookup x=ae c->X.env.cells.lookup x=ae c
 has:∀x,((relabel scope X.env).names.lookup x=ae .cell\/(relabel scope X.env).names.lookup x=ae .free)->∃c,cl.lookup x=ae c
 len:fr.length=N.length
 fre:∀(j i:Nat),fr[j]?=ae (ae i)->∃x,N[j]?=ae x/\X.N[i]?=ae x/\gT X.env.scope x/\(X.env.kindOf x=ae .cell\/X.env.kindOf x=ae .free) /\
  ((relabel scope X.env).names.lookup x=ae .cell\/(relabel scope X.env).names.lookup x=ae .free)/\cl.lookup x=X.env.cells.lookup x
theorem tI{κ:Type}:∀{l:List (Str×κ)}{x:Str}{k:κ},l.lookup x=ae k->(x,k)∈l
 |[],_,_,h=>nomatch h
 | (y,k')::r,x,k,h=>by
  rw[List.lookup_cons]at h;cases e:x==y with
  |true=>
   rw[e]at h;have e':x=y:=by simpa using e
   have h':k'=k:=B3 h;rw[e',h'];exact Ae
  |false=>
   rw[e]at h;exact Af _ (tI h)
theorem Hh{κ:Type}:∀{l:List (Str×κ)}{x:Str},x∈l.map (·.1)->∃k,l.lookup x=ae k
 |[],_,h=>absurd h (by simp)
 | (y,k')::r,x,h=>by
  rw[List.lookup_cons];cases e:x==y with
  |true=>exact⟨k',rfl⟩
  |false=>
   have ne:¬x=y:=λz=>by rw[z]at e;simp at e
   have h':x∈y::r.map (·.1):=h;rcases Aq.mp h' with z|z
   ·exact absurd z ne
   ·exact Hh z
theorem VX{X:Cx}{cl:List (Str×Addr)}(nm)(ks)(hrel:(relabel scope X.env).names=nm)(hks:cl.map (·.1)=ks)(h3:∀y∈nm,(y.2=.cell\/y.2=.free)->y.1∈ks):
  ∀x,((relabel scope X.env).names.lookup x=ae .cell\/(relabel scope X.env).names.lookup x=ae .free)->∃c,cl.lookup x=ae c:=by
 intro x h;rw[hrel]at h;refine Hh ?_;rw[hks];rcases h with h|h
 ·exact h3 _ (tI h) (.inl rfl)
 ·exact h3 _ (tI h) (.inr rfl)
def d8(fr:List (Option Nat))(σ:St):St:=fr.map λo=>o.bind λi=>(σ[i]?).bind id
theorem Pc{j:Nat}(h:(d8 fr σ)[j]?=ae (ae v)):∃i,fr[j]?=ae (ae i)/\σ[i]?=ae (ae v):=by
 unfold d8 at h;rw[Bh]at h;cases e:fr[j]? with
 |none=>rw[e]at h;cases h
 |some o=>
  rw[e]at h;cases o with
  |none=>cases h
  |some i=>
   refine⟨i,rfl,?_⟩;have h':(σ[i]?).bind id=ae v:=B3 h;cases e2:σ[i]? with
   |none=>rw[e2]at h';cases h'
   |some o2=>
    rw[e2]at h';have h2:o2=ae v:=h';rw[h2]
def qC(X:Cx)(ifs:List Expr)(tt:TT):Prop:=
 ∀(pins:List (Addr×Obj))(s:Ao)(σ:St)(H:Hp)(Q:Bool->Hp->Prop),Inv X pins σ H s->tt σ H Q->
  Bd (Bn X.prog X.w) X.A (forIn ifs ah λc r=>if r=ah then do let ok <-isTrue c X.env (eval c X.env);pure (ForInStep.yield ok)else pure (ForInStep.yield r)) (TP X pins σ Q) X.xe s
def IW:TT:=λ_ H Q=>Q ah H
theorem N8:qC X [] IW:=λ_ _ _ H _ I h=>wpAny_tests_nil ⟨H,I,h⟩
theorem RC(h:PT X c tt):qC X [c] tt:=λpins s σ H Q I q=>wpAny_tests_one (h pins s σ H Q I q)
def pd(fr:List (Option Nat))(wi:TI)(g:TG)(tt:TT)(te:TE):TE:=λσ H Q=>wi σ H λJ H1=>∀D,H1 D=af->
 ∃W:Nat->Nat->List V->St->Hp->Prop,(∃m,W 0 m [] (d8 fr σ) (upd H1 D (.lst [])))/\∀i m ys τ H,W i m ys τ H->
  ((J.stop i H/\Q (.ref D) H)\/(J.go i H/\ys.length < A6/\∀x H',J.yld i H x H'->g x τ H' λτ2 H2=>tt τ2 H2 λb H3=>
   if b=ah then te τ2 H3 (λy H4=>H4 D=ae (.lst ys)/\∃m',m' < m/\W (i+1) m' (ys++[y]) τ2 (upd H4 D (.lst (ys++[y]))))else ∃m',m' < m/\W (i+1) m' ys τ2 H3))
section
variable{X:Cx}{N:List Str}{scope:Fl}{cl:List (Str×Addr)}{fr:List (Option Nat)}{pins:List (Addr×Obj)}{σ:St}{H:Hp}{s:Ao}{fp:List Addr}
theorem M1(S:CompSc X N scope cl fr)(I:Inv X pins σ H s)(hf:∀b∈fp,du X pins H b)(hlt:∀b∈fp,b < s.heap.objs.size):(dj X N scope cl s H fp).Ok where
 mod:=I.ok.mod
 kind:=S.kind
 glob:=I.ok.glob
 blt:=I.ok.blt
 above:=Ay _
 inj:=λx y c a b=>I.ok.inj x y c (S.sub x c a) (S.sub y c b)
 has:=λx h=>S.has x h
 cab:=λx c h=>nomatch h
 hd:=I.ok.hd
 frames:=I.ok.frames
 stk:=.inl rfl
 exf:=λb hb=>⟨Bq (hlt b hb),λx c e=>(hf b hb).2.2.2.2.1 x c (S.sub x c e)⟩
 bs:=I.bs
 bsz:=A4 I.ok.bsz I.sz
 noex:=λb o e hb=>by
  rcases(hf b hb).2.2.2.1 with z|z
  ·exact I.ok.noex b o e z
  ·exact absurd (By (A0 (I.ok.bs b o e).1) z) (Fm _)
 exfs:=λb hb z=>by
  rcases Aq.mp (I.stkSub b z)with e|e
  ·exact(hf b hb).2.1 e
  ·exact(hf b hb).2.2.1 e
 funs:=I.stack
 frf:=I.stkFree
theorem CO(S:CompSc X N scope cl fr)(I:Inv X pins σ H s)(hf:∀b∈fp,du X pins H b)(hlt:∀b∈fp,b < s.heap.objs.size)
   (hsb:Dj s.heap.objs.size (s.heap.push ob) h₁)  (hn:h₁.Ns s.heap.objs.size m):
  Inv (dj X N scope cl s H fp) [] (d8 fr σ) H {s with heap:=h₁,toks:=t'}:=by
 have old:∀b o,s.heap.get? b=ae o->h₁.get? b=ae o:=λb o e=>(hsb.2 b (Bq (A0 e))).trans (Ai _ e);refine⟨M1 S I hf hlt,rfl,I.bare,Un.kept old,⟨m,hn,λj x v e1 e2 e3=>?_⟩,λx c e=>?_,I.fresh,λx c e=>I.freeC x c (S.sub x c e),λp hp=>?_,I.hok.kept old,?_⟩
 ·obtain⟨i,f1,f2⟩:=Pc e2;obtain⟨y,g1,g2,g3,g4,g5,g6⟩:=S.fre j i f1;have e1':N[j]?=ae x:=e1;rw[g1]at e1';have exy:y=x:=B3 e1';subst exy;obtain⟨m0,hn0,hl⟩:=I.loc;obtain⟨u,r,l⟩:=hl i y v g2 f2 g3;refine⟨u,r,.inr ⟨g5,?_⟩⟩;rcases l with⟨k,_⟩|⟨k,c,e,z⟩
  ·rcases g4 with q|q
   ·rw[q]at k;cases k
   ·rw[q]at k;cases k
  ·exact⟨c,g6.trans e,z.keeps old⟩
 ·obtain⟨v,z⟩:=I.cell x c (S.sub x c e);exact⟨v,z.keeps old⟩
 ·exact absurd hp (by simp[dj])
 ·show(d8 fr σ).length=N.length;unfold d8;rw[Ab,S.len]
theorem FP{τ:St}(I:Inv X pins σ H s0)(hf:∀b∈fp,du X pins H b)(I':Inv (dj X N scope cl s0 H fp) [] τ H' s')(hs:Dj s0.heap.objs.size s'.heap h'):
  Inv X pins σ H' {s' with heap:=h'}:=by
 have hC:H' s0.heap.objs.size=af:=I'.free;have u:Un (iP X.stack) fp H H' s0.heap s'.heap:=I'.base;have ne:∀b o,s0.heap.get? b=ae o->b≠s0.heap.objs.size:=λb o e=>Bq (A0 e);have hok':HOk X.prog X.w H' h':=λb o e=>by
  have q:ObjOk X.prog X.w H' s'.heap b o:=I'.hok b o e;refine q.stay (λc v hc z=>(hs.2 c ?_).trans z) (λ_ z=>z) λ_ _ z=>z
  rintro rfl
  rcases hc with z|z
  ·rw[<-z,hC]at e;cases e
  ·rw[hC]at z;cases z
 refine I.call' (s':={ s' with heap:=h'}) (ch:=fp) I'.os ?_ hok' I'.bare λb hb=>?_
 ·refine⟨λb o e n h1 h2=>(hs.2 b (ne b o e)).trans (u.keep b o e n h1 h2),λb o e n h1 h2=>?_,u.free,λb o e h2=>?_,u.tups,u.frzs,u.tbls⟩
  ·obtain⟨sl,z⟩:=u.slot b o e n h1 h2;exact⟨sl,(hs.2 b (ne b o e)).trans z⟩
  ·obtain⟨o',z⟩:=u.there b o e h2;exact⟨o',(hs.2 b (ne b o e)).trans z⟩
 ·obtain⟨_,f1,_,f3,f4,f5⟩:=hf b hb;exact⟨f3,f1,f4,f5⟩
end
theorem Oc
  (hc:X.calm=ah) (S:CompSc X N scope cl fr) (hi:PI X tg iter wi) (hg:∀s H fp,PG (dj X N scope cl s H fp) tg g) (ht:∀s H fp,qC (dj X N scope cl s H fp) ifs tt)
  (he:∀s H fp,PE (dj X N scope cl s H fp) elt te) (hs:∀x,Ex iter X.env x=pure x:=by intro _;rfl):
  PE X (.ListComp elt [⟨tg,iter,ifs,0⟩] scope pos) (pd fr wi g tt te):=by
 intro pins s σ H Q I h;rw[eval_ListComp];refine wpAny_comprehension_free (use:=af) (cl:=cl) rfl hs S.clos S.kind S.names (bh (hi pins s σ H _ I h) λv s1 h1=>bh h1 λitv s2 h2=>?_);obtain⟨it,fp,tn,J,H2,e,I2,T,st2,f2,q⟩:=h2;subst e;refine Cc (wpAny_newFunctionEnv S.nocell (by intro y hy;simp at hy) (λh₁ hn hsb=>?_) S.kind);dsimp only at hn hsb ⊢;obtain⟨W,⟨m0,w0⟩,turn⟩:=q s2.heap.objs.size I2.fresh
 have I3:Inv X pins σ (upd H2 s2.heap.objs.size (.lst [])) {s2 with heap:=s2.heap.push {cls:=.type "list",dict:=af,data:=.seq ([]:List Aj).toArray}}:=I2.lnew (its:=[]) (t':=s2.toks) .nil (Bf _);have key:∀s3:Ao,s3={ s2 with heap:=s2.heap.push {cls:=.type "list",dict:=af,data:=.seq ([]:List Aj).toArray}}->Inv X pins σ (upd H2 s2.heap.objs.size (.lst [])) s3->
   ∀(ob:Obj)(mm:Str->Option Aj),Dj s3.heap.objs.size (s3.heap.push ob) h₁->h₁.Ns s3.heap.objs.size mm->
   Gs (Bn X.prog X.w) X.A (.compStart (.ListComp elt [⟨tg,iter,ifs,0⟩] scope pos) 0 (.ref it) (.ref s2.heap.objs.size) (compEnvC scope cl s3.heap.objs.size X.env))
    (compPost (Bn X.prog X.w) X.A X.xe af (EP X pins σ Q) (.ref s2.heap.objs.size) s3.heap.objs.size) {s3 with heap:=h₁,toks:=s3.toks+([]:List (Str×Aj)).length}:=?key
 ·exact key _ rfl I3 _ _ hsb hn
 clear I3 hn hsb;intro s3 hs3 I3 ob mm hsb hn;have hfp:∀b∈fp,∃o,s2.heap.get? b=ae o:=λb hb=>let⟨o,e,_⟩:=T.obj _ _ st2 b hb;⟨o,e⟩;have up:∀b o,s2.heap.get? b=ae o->s3.heap.get? b=ae o:=λb o e=>by rw[hs3];exact Ai _ e
 have f3:∀b∈fp,du X pins (upd H2 s2.heap.objs.size (.lst [])) b:=λb hb=>by
  obtain⟨o,e⟩:=hfp b hb;obtain⟨g0,gr⟩:=f2 b hb;exact⟨by rw[bc (Bq (A0 e))];exact g0,gr⟩
 have hlt:∀b∈fp,b < s3.heap.objs.size:=λb hb=>let⟨o,e⟩:=hfp b hb;A0 (up b o e);generalize hH3:upd H2 s2.heap.objs.size (.lst [])=H3 at I3 f3 w0;have I4:=CO (t':=s3.toks+([]:List (Str×Aj)).length) S I3 f3 hlt hsb hn;have st4:tn 0 h₁:=T.keep _ _ _ st2 λb hb o e=>(hsb.2 b (Bq (A0 (up b o e)))).trans (Ai _ (up b o e));have stat:∀{H':Hp},(∀b∈fp,H' b=af)->∀b∈fp,du (dj X N scope cl s3 H3 fp) [] H' b:=λhn b hb=>by
  obtain⟨_,k1,k2,k3,k4,k5⟩:=f3 b hb;refine⟨hn b hb,Bq (hlt b hb),λz=>?_,.inl hb,λx c e=>k4 x c (S.sub x c e),λp hp=>absurd hp (by simp[dj])⟩;rcases Aq.mp (I3.stkSub b z)with e|e
  ·exact k1 e
  ·exact k2 e
 have loop:Gs (Bn X.prog X.w) X.A (.compLoop (.ListComp elt [⟨tg,iter,ifs,0⟩] scope pos) 0 (.ref it) (.ref s2.heap.objs.size) (compEnvC scope cl s3.heap.objs.size X.env))
   (compPost (Bn X.prog X.w) X.A X.xe af (EP X pins σ Q) (.ref s2.heap.objs.size) s3.heap.objs.size) {s3 with heap:=h₁,toks:=s3.toks+([]:List (Str×Aj)).length}:=by
  refine EI (λn s'=>∃i ys τ Hc,Inv (dj X N scope cl s3 H3 fp) [] τ Hc s'/\tn i s'.heap/\(∀b∈fp,Hc b=af)/\W i n ys τ Hc) ?_ m0 ⟨0,[],d8 fr σ,H3,I4,st4,λb hb=>(f3 b hb).1,w0⟩
  rintro n s5 ⟨i,ys,τ,Hc,I5,st5,fr5,w5⟩
  rcases turn i n ys τ Hc w5 with⟨stop,qn⟩|⟨go,hz,step⟩
  ·refine bh (T.done (dj X N scope cl s3 H3 fp) rfl rfl rfl hc i [] s5 τ Hc (λ_ _=>False) I5 (stat fr5) st5 stop) λr s6 ⟨hr,I6⟩=>?_;subst hr;obtain⟨mm,hm,_⟩:=I6.loc;exact⟨mm,hm,λh' hs'=>⟨.ref s2.heap.objs.size,Hc,FP I3 f3 I6 hs',rfl,qn⟩⟩
  ·refine bh (T.item (dj X N scope cl s3 H3 fp) rfl rfl rfl hc i [] s5 τ Hc (λ_ _=>False) I5 (stat fr5) st5 go) λr s6 ⟨u,hr,h6⟩=>?_;subst hr;refine bh h6 λ_ s7 ⟨x,H7,I7,r7,y7,st7,fr7⟩=>?_;have I7':=I7.pinned (stat fr7) (T.obj _ _ st7);refine bh (hg s3 H3 fp _ s7 τ H7 x u _ I7' r7 (step x H7 y7)) λ_ s8 ⟨τ8,H8,I8,q8⟩=>?_;refine bh (ht s3 H3 fp _ s8 τ8 H8 _ I8 q8) λok s9 ⟨H9,I9,q9⟩=>?_;have keep:∀{st:Ao}{τ':St}{H':Hp},Inv (dj X N scope cl s3 H3 fp) ([]++mR fp s7.heap) τ' H' st->tn (i+1) st.heap/\∀b∈fp,H' b=af:=λ{st τ' H'} Ix=>by
    refine⟨T.keep _ _ _ st7 λb hb o e=>(Ix.pin (b,o) (Az _ (Az _ (mI hb e)))).1,λb hb=>?_⟩;obtain⟨o,e,d⟩:=T.obj _ _ st7 b hb;exact(Ix.pin (b,o) (Az _ (Az _ (mI hb e)))).2.1
   cases ok with
   |false=>
    rw[if_neg Al]at q9 ⊢;obtain⟨m',hm,w9⟩:=q9;obtain⟨k1,k2⟩:=keep I9;exact⟨m',hm,i+1,ys,τ8,H9,I9.unpinned,k1,k2,w9⟩
   |true=>
    rw[if_pos rfl]at q9 ⊢;refine bh (he s3 H3 fp _ s9 τ8 H9 _ I9 q9) λxv s10 ⟨y,H10,I10,r10,hD,m',hm,w10⟩=>?_;refine bh (rZ _ s10 τ8 H10 (.ref s2.heap.objs.size) [y] (.ref s2.heap.objs.size) [xv] (λz H'=>∃m',m' < n/\W (i+1) m' (ys++[y]) τ8 H') I10 rfl (.cons r10 .nil) ⟨_,ys,y,rfl,rfl,hD,hz,m',hm,w10⟩) λz s11 ⟨z',H11,I11,_,m'',hm',w11⟩=>?_;obtain⟨k1,k2⟩:=keep I11;exact⟨m'',hm',i+1,ys++[y],τ8,H11,I11.unpinned,k1,k2,w11⟩
 exact codeAny_compStart_list loop (T.self _ 0 _ _ _ st4 loop)
mutual
inductive RdD(K:Ag)(H:Hp):V->Aa->Prop
 |non:RdD K H .non .none
 |bl (b:Bool):RdD K H (.bl b) (.bool b)
 |int (i:Int):RdD K H (.int i) (.int i)
 |str (x:Str):RdD K H (.str x) (.str x)
 |lst {a:Addr} {xs:List V} {ds:List Aa}:SqL K H a xs->RdAll K H xs ds->RdD K H (.ref a) (.list ds)
 |tup {a:Addr} {xs:List V} {ds:List Aa}:SqT K H a xs->RdAll K H xs ds->RdD K H (.ref a) (.tuple ds)
inductive RdAll(K:Ag)(H:Hp):List V->List Aa->Prop
 |nil:RdAll K H [] []
 |cons {x:V} {xs:List V} {d:Aa} {ds:List Aa}:RdD K H x d->RdAll K H xs ds->RdAll K H (x::xs) (d::ds)
end
section
variable{X:Cx}{pins:List (Addr×Obj)}{σ:St}{H:Hp}{s:Ao}
mutual
theorem RdD.reads(I:Inv X pins σ H s):∀{v:V}{d:Aa}{u:Aj},RdD X.K H v d->RelV v u->∃as,Reads s.heap u d as
 |_,_,u,.non,r=>by
  cases(show u=B1 from r);exact⟨_,.none⟩
 |_,_,u,.bl b,r=>by
  cases(show u=Value.bool b from r);exact⟨_,.bool b⟩
 |_,_,u,.int i,r=>by
  obtain⟨t,rfl⟩:=(show ∃t,u=Value.int i t from r);exact⟨_,.int i t⟩
 |_,_,u,.str x,r=>by
  obtain⟨t,rfl⟩:=(show ∃t,u=D7 x t from r);exact⟨_,.str x t⟩
 |_,_,u,.lst (a:=a) h1 h2,r=>by
  cases(show u=B8 a from r);obtain⟨its,rv,⟨o,n,e,c,_,d⟩,_⟩:=I.list h1;obtain⟨as,ha⟩:=RdAll.reads I h2 rv;exact⟨_,.list e c d (by simpa using ha)⟩
 |_,_,u,.tup (a:=a) h1 h2,r=>by
  cases(show u=B8 a from r);obtain⟨its,rv,⟨o,e,c,n,d⟩,_⟩:=I.tuple h1;obtain⟨as,ha⟩:=RdAll.reads I h2 rv;exact⟨_,.tuple e c d (by simpa using ha)⟩
theorem RdAll.reads(I:Inv X pins σ H s):∀{vs:List V}{ds:List Aa}{us:List Aj},RdAll X.K H vs ds->Vals vs us->∃as,ReadsAll s.heap us ds as
 |_,_,_,.nil,.nil=>⟨_,.nil⟩
 |_,_,_,.cons h1 h2,.cons r1 r2=>by
  obtain⟨as,ha⟩:=RdD.reads I h1 r1;obtain⟨bs,hb⟩:=RdAll.reads I h2 r2;exact⟨_,.cons ha hb⟩
end
end
def Small(d:Aa):Prop:=Gh d=ah/\Gg d<=20/\F6 d<=2 ^ 20/\PyData.intsShort 13 d=ah/\Gv d=ah
theorem Small.len(h:Small d):d.shown.length<=A6:=by
 have hl:PyData.layable0 d=ah:=by
  unfold PyData.layable0;rw[h.1,decide_eq_true (show Gg d<=64 by have:=h.2.1;omega),decide_eq_true h.2.2.1];rfl
 have:=shown_le13 hl h.2.2.2.1;rw[Eu];omega
def t7(K:Ag):R2:=λx y H Q=>∃a b xs,x=.ref a/\y=.ref b/\SqL K H a xs/\SqL K H b []/\Q (.bl xs.isEmpty) H
theorem VZ(hu:X.A.units < cLine):OpR X (B4 .Eq) (t7 X.K):=by
 intro pins s σ H x y v u Q I rx ry h;obtain⟨a,b,xs,rfl,rfl,ha,hb,q⟩:=h;cases(show v=B8 a from rx);cases(show u=B8 b from ry);obtain⟨its,r1,p1,_⟩:=I.list ha;obtain⟨its2,r2,p2,_⟩:=I.list hb;have e2:its2=[]:=Vals.zero r2;subst e2;cases r1 with
 |nil=>exact PySem.SeqAt.eq_listAt (e:=λ_=>ah) p1.isList p2.isList rfl hu (λj h1=>absurd h1 (by simp)) ⟨.bl ah,H,I,(by rfl),q⟩
 |cons r1 r3=>exact PySem.SeqAt.eq_list_lengthsAt p1.isList p2.isList (by simp) hu ⟨.bl ai,H,I,rfl,q⟩
def K4(K:Ag):R2:=λx y H Q=>∃a b xs ys,x=.ref a/\y=.ref b/\SqT K H a xs/\SqT K H b ys/\ys≠[]/\xs.length+ys.length<=A6 /\
 (xs=[]->Q (.ref b) H)/\(xs≠[]->∀p,H p=af->Q (.ref p) (upd H p (.tup (xs++ys))))
theorem op_catA:OpR X (Fd .Add) (K4 X.K):=by
 intro pins s σ H x y v u Q I rx ry h;obtain⟨a,b,xs,ys,rfl,rfl,ha,hb,hy,hz,q0,q2⟩:=h;by_cases hx:xs=[]
 ·cases(show v=B8 a from rx);cases(show u=B8 b from ry);obtain⟨its,r1,p1,_⟩:=I.tuple ha;obtain⟨its2,r2,p2,_⟩:=I.tuple hb;obtain⟨⟨cls,dd,data,sl⟩,ho,hc,n,hd⟩:=id p1;obtain⟨⟨cls2,dd2,data2,sl2⟩,ho2,hc2,n2,hd2⟩:=id p2;simp only at hc hd hc2 hd2;subst hc hd hc2 hd2;have hi:its=[]:=r1.nil_iff.mpr hx;exact concat_meets ⟨_,ho,rfl⟩ ⟨_,ho2,rfl⟩ noFill_tuple_add seq_tuple_add Gd Ga (F4 _ _)
   (tuple_addW0 a b its.toArray its2.toArray n n2 dd dd2 sl sl2 (by simp[hi])) ⟨ho,ho2,⟨.ref b,H,I,rfl,q0 hx⟩⟩
 ·exact op_catT pins s σ H (.ref a) (.ref b) v u Q I rx ry ⟨a,b,xs,ys,rfl,rfl,ha,hb,hx,hz,λe=>absurd e hy,λ_=>q2 hx⟩
theorem Vv:CallR X (.builtin "isinstance") (λxs H Q=>∃x t b,xs=[x,.ty T]/\TyOf X.K H x t/\PySem.W.kitOne X.K t (.type T)=ae b/\Q (.bl b) H):=by
 intro pins s σ H xs us Q I r h;obtain⟨x,t,b,rfl,ty,e,q⟩:=h;obtain⟨u,u',rfl,ru,ru'⟩:=OW r;cases(show u'=D8 T from ru');exact NM I ru ty e λtk=>⟨.bl b,H,I.tok tk,rfl,q⟩
section
variable{X:Cx}{pins:List (Addr×Obj)}{σ:St}{A:Cj}{R:Result->Ao->Prop}
theorem ur(h:n<=1000):n<=A6:=Gn (K5 h)
end
def DU(x:Str):It:=⟨λi _=>i < x.cps.size,λi H y H'=>H'=H/\∃c,x.cps[i]?=ae c/\y=.str ⟨#[c]⟩,λi _=>i=x.cps.size⟩
theorem Ir{K:Ag}(it)
  (hn:["enumerate","zip","dict_itemiterator","dict_reverseitemiterator","odict_iterator","itertools.zip_longest","itertools.pairwise"].contains T=ai)
  (hW:∀A:Cj,A.handled=af->Walks P w A it [it] [it] x.cps.size (SignAt x) (λi h=>h.IsStrIter it T x t i))
  (hS:∀(A:Cj)(i:Nat)(s:Ao)(Q:Aj->Ao->Prop)(E:Aj->Ao->Prop),s.heap.IsStrIter it T x t i->Q (.ref it) s->Bd (Bn P w) A (pyIter (.ref it)) Q E s):
  Turn P w K tg (DU x) [it] it (λi h=>h.IsStrIter it T x t i) where
 mem:=by simp
 obj:=λi h st b hb=>by
  have e:b=it:=by simpa using hb
  subst e;obtain⟨o,e,c,d⟩:=st;exact⟨o,e,λv z=>by rw[d]at z;cases z⟩
 keep:=λi h h' st k=>let⟨o,ho,r⟩:=st;⟨o,k it (by simp) o ho,r⟩
 item:=by
  intro X hP hw hK hc i pins s σ H E I hf st hg;subst hP hw hK;obtain⟨f0,f1,f2,f3,f4,f5⟩:=hf it (by simp);refine(hW X.A (I.ok.hd hc)).item i s _ _ hg st λv h' tk hv st' kk=>?_;obtain⟨c,u,hcu,rfl⟩:=hv;have I1:Inv X pins σ H {s with heap:=h',toks:=tk}:=I.turned (λb o hb e=>kk b o (by simpa using hb) e) f0 f1 f3 f4 f5;obtain⟨o,e,cc,d⟩:=id st';exact⟨_,rfl,pY (s:={ s with heap:=h',toks:=tk}) e cc d hn ⟨.str ⟨#[c]⟩,H,I1,⟨u,rfl⟩,⟨rfl,c,hcu,rfl⟩,st',λb hb=>(hf b hb).1⟩⟩
 done:=by
  intro X hP hw hK hc i pins s σ H E I hf st hg;subst hP hw hK;obtain⟨f0,f1,f2,f3,f4,f5⟩:=hf it (by simp);have hi:i=x.cps.size:=hg;subst hi;exact(hW X.A (I.ok.hd hc)).done s _ _ st λh' tk kk=>⟨rfl,I.turned (λb o hb e=>kk b o (by simpa using hb) e) f0 f1 f3 f4 f5⟩
 self:=λA i s Q E st h=>hS A i s Q E st h
def qI(tl:TE):TI:=λσ H R=>tl σ H λv H1=>∃x,v=.str x/\R (DU x) H1
theorem XU(hl:PE X l tl):PI X tg l (qI tl):=by
 intro pins s σ H R I h;refine bh (hl pins s σ H _ I h) λv s1 ⟨y,H1,I1,r1,q1⟩=>?_;obtain⟨x,e,q⟩:=q1;subst e;obtain⟨t,rfl⟩:=(show ∃t,v=D7 x t from r1);have fp:∀(o:Obj)(b:Addr),b∈[s1.heap.objs.size]->du X pins H1 b:=λo b hb=>by
  have e:b=s1.heap.objs.size:=by simpa using hb
  subst e;exact I1.fpOk (Ay _) (I1.hok.fresh (Ay _))
 cases ha:x.cps.all (· < 128)
 ·refine wpAny_pyIter_wide ha ?_;exact⟨s1.heap.objs.size,[s1.heap.objs.size],_,_,H1,rfl,I1.kept (t':=s1.toks) λb o e=>Ai _ e,
   Ir (T:="str_iterator") (t:=t) _ ∎ (λA hA=>Walks.strWide hA _ x t) (λ_ _ _ _ _ st h=>wpAny_pyIter_striter_wide st h),⟨_,Ba _ rfl,rfl,rfl⟩,fp default,q⟩
 ·refine wpAny_pyIter_ascii ha ?_;exact⟨s1.heap.objs.size,[s1.heap.objs.size],_,_,H1,rfl,I1.kept (t':=s1.toks) λb o e=>Ai _ e,
   Ir (T:="str_ascii_iterator") (t:=t) _ ∎ (λA hA=>Walks.strAscii hA _ x t) (λ_ _ _ _ _ st h=>wpAny_pyIter_striter_ascii st h),⟨_,Ba _ rfl,rfl,rfl⟩,fp default,q⟩
theorem Mg(bs:List Bool):((Ce bs.length).all λi=>(bs[i]?).getD ah)=bs.all id:=by
 rw[Fj,Be,Be]
 constructor
 ·intro h b hb;obtain⟨i,hi,rfl⟩:=List.mem_iff_getElem.mp hb;have:=h i (Dh.mpr hi);rw[Ar hi]at this;exact this
 ·intro h i hi;have hi':=Dh.mp hi;rw[Ar hi'];exact h _ (F1 hi')
theorem Um(hh:X.A.handled=af):CallR X (.builtin "all") (λxs H Q=>∃(p:Addr)(bs:List Bool),xs=[.ref p]/\H p=ae (.lst (bs.map V.bl))/\Q (.bl (bs.all id)) H):=by
 intro pins s σ H xs us Q I r h;obtain⟨p,bs,rfl,hp,q⟩:=h;obtain⟨u,rfl,ru⟩:=i5 r;cases(show u=B8 p from ru);obtain⟨its,rv,pl,_⟩:=I.list (SqL.of (K:=X.K) hp);have hl:s.heap.IsList p its.toArray:=pl.isList;have hlt:p < s.heap.objs.size:=by obtain⟨_,e,_⟩:=hl;exact A0 e
 have hlen:bs.length=its.length:=by have:=rv.length;rwa [Ab]at this
 refine call_all_walk (wpAny_pyIter_list hl ?_);refine⟨s.heap.objs.size,[s.heap.objs.size,p],[s.heap.objs.size],its.toArray.size,_,_,λi=>(bs[i]?).getD ah,rfl,Walks.list (A:=X.A.in1) hh _ p (Bq hlt) its.toArray,
  ⟨⟨_,Ba _ rfl,rfl,rfl⟩,hl.push _⟩,λi v s' Q' E' hP hQ=>?_,λh' tk hk=>?_⟩
 ·have hi:its[i]?=ae v:=by simpa using hP
  have hib:i < bs.length:=by rw[hlen];exact(Bu.mp hi).1
  have hx:(bs.map V.bl)[i]?=ae (V.bl bs[i]):=by simp[hib]
  obtain⟨u,hu,ru⟩:=rv.get hx;rw[hi]at hu;cases(B3 hu);cases(show v=Value.bool bs[i]from ru);dsimp only at hQ;rw[Ar hib,Option.getD_some]at hQ;exact Di hQ
 ·have e:((Ce its.toArray.size).all λi=>(bs[i]?).getD ah)=bs.all id:=by
   rw[Bb,<-hlen];exact Mg bs
  rw[e];refine⟨.bl (bs.all id),H,I.kept λb x e=>hk b x (λhm=>?_) (Ai _ e),rfl,q⟩;rw[Au.mp hm]at e;exact Fm _ (A0 e)
theorem UN:OpR X (B4 .LtE) (λx y H Q=>∃i j,x=.str i/\y=.str j/\Q (.bl (!decide (j.cps.toList < i.cps.toList))) H):=by
 intro pins s σ H x y v u Q I rx ry h;obtain⟨i,j,rfl,rfl,q⟩:=h;obtain⟨t,rfl⟩:=rx;obtain⟨t',rfl⟩:=ry;exact P.le_str (cS I q rfl)
theorem OC:OpR X (B4 .Gt) (λx y H Q=>∃i j,x=.str i/\y=.str j/\Q (.bl (decide (j.cps.toList < i.cps.toList))) H):=by
 intro pins s σ H x y v u Q I rx ry h;obtain⟨i,j,rfl,rfl,q⟩:=h;obtain⟨t,rfl⟩:=rx;obtain⟨t',rfl⟩:=ry;exact P.gt_str (cS I q rfl)
def sM:Aa->String
 |.none=>"NoneType"
 |.bool _=>"bool"
 |.int _=>"int"
 |.str _=>"str"
 |.list _=>"list"
 |.tuple _=>"tuple"
 |.dict _=>"dict"
def fq(T:String)(d:Aa):Bool:=sM d==T || (T=="int"&&sM d=="bool")
def b7(h:Str):Aa->Bool
 |.str x=>decide (x=h)
 |_=>ai
end L2
namespace Nb
open PySem L2
def nT:Bool:=ah
def sR:List V:=[.non,.non,.non,.int 1,.int 2,.int 3,.int 20]
def jV:List Aa:=[.none,.none,.none,.int 1,.int 2,.int 3,.int 20]
end Nb
set_option Elab.async false
set_option maxRecDepth 100000
namespace Nb
open PySem L2
def Kp(t:Addr)(H H':Hp):Prop:=∀b o,H b=ae o->b≠t->H' b=ae o
theorem Kp.refl(t)(H):Kp t H H:=λ_ _ h _=>h
theorem Kp.trans(a:Kp t H H1)(b:Kp t H1 H2):Kp t H H2:=λc o h n=>b c o (a c o h n) n
theorem Kp.new(h:H p=af):Kp t H (upd H p o):=λc o' e _=>by
 rw[bc (b5 e h)];exact e
theorem Kp.tape:Kp t H (upd H t o):=λc o' e n=>by
 rw[bc n];exact e
structure TL where
 s:Addr
 g:Addr
def jR(l:TL):List V:=if nT=ah then[.ref l.g]else[]
structure Tp(H:Hp)(t:Addr)(l:TL)(ns:List Int)(n:Int):Prop where
 ob:∃a b:Int,H t=ae (.lst (.ref l.s::.int a::.int b::jR l))/\0<=a/\a<=n
 ls:H l.s=ae (.lst (ns.map V.int))
 len:ns.length<=63
 ag:nT=ah->H l.g=ae (.lst sR)
 gne:l.g≠t
theorem Tp.ne(T:Tp H t l ns n):t≠l.s:=by
 obtain⟨a,b,h,_⟩:=T.ob;refine Ow h T.ls λz=>?_;have z':(.ref l.s::.int a::.int b::jR l:List V)=ns.map V.int:=HO.lst.inj z;cases ns with
 |nil=>cases z'
 |cons m r=>
  rw[A3]at z';have:=(Cr z').1;cases this
theorem Tp.other(T:Tp H t l ns n)(h1:t≠p)(h2:l.s≠p)(h3:nT=ah->l.g≠p):Tp (upd H p o) t l ns n:=by
 obtain⟨a,b,e,h⟩:=T.ob;exact⟨⟨a,b,by rw[bc h1];exact e,h⟩,by rw[bc h2];exact T.ls,T.len,λz=>by rw[bc (h3 z)];exact T.ag z,T.gne⟩
theorem Tp.new(T:Tp H t l ns n)(h:H p=af):Tp (upd H p o) t l ns n:=by
 obtain⟨a,b,e,_⟩:=T.ob;exact T.other (b5 e h) (b5 T.ls h) λz=>b5 (T.ag z) h
theorem SW{xs:List V}{r:Int}(h0:0<=r)(h1:r < xs.length):∃v,cF xs r=ae v/\v∈xs:=by
 obtain⟨j,rfl⟩:=Int.eq_ofNat_of_zero_le h0;have hj:j < xs.length:=by omega
 exact⟨xs[j],fX (Ar hj),F1 hj⟩
theorem oR(h:n<=1000):n<=A6:=Gn (K5 h)
theorem XA:Cf "tuple"=ae (.type "tuple"):=by decide +kernel
theorem Uh:Cf "int"=ae (.type "int"):=by decide +kernel
theorem R7:Cf "str"=ae (.type "str"):=by decide +kernel
theorem S6:Cf "repr"=ae (.builtin "repr"):=by decide +kernel
theorem CM:Cf "isinstance"=ae (.builtin "isinstance"):=by decide +kernel
theorem M7:Cf "all"=ae (.builtin "all"):=by decide +kernel
theorem AO:Cf "list"=ae (.type "list"):=by decide +kernel
theorem Zw:Cf "bool"=ae (.type "bool"):=by decide +kernel
theorem Xd(h:xs.length<=63):fi xs af (ae 63)=xs:=by
 unfold fi;have e1:HT.sIx xs.length 0 af=0:=rfl;have e2:HT.sIx xs.length xs.length (ae 63)=xs.length:=by
  have e:=HT.sIx_nat xs.length xs.length 63;rw[show((63:Nat):Int)=63 from rfl]at e;rw[e];omega
 rw[e1,e2,List.drop_zero,Nat.sub_zero,F0]
def p7(K:Ag):Sp:=λvs H Q _=>∃(a:Addr)(ns:List Int),vs=[.ref a]/\SqL K H a (ns.map V.int)/\ns.length<=63 /\
 ∀(t:Addr)(l:TL)(H':Hp),Tp H' t l ns 0->(∀b o,H b=ae o->H' b=ae o)->Q (.ref t) H'
def HJ:Sp:=λvs H Q _=>∃(t:Addr)(l:TL)(ns:List Int)(n many:Int),vs=[.ref t,.int many]/\Tp H t l ns n/\n < 2 ^ 40/\0 < many/\many < 1073741824 /\
 ∀(r:Int)(H':Hp),0<=r->r < many->Tp H' t l ns (n+1)->Kp t H H'->Q (.int r) H'
end Nb
namespace DL
open PySem L2 Nb
abbrev D:=Aa
mutual
inductive RdX(H:Hp)(B:Addr->Prop):V->Aa->Prop
 |non:RdX H B .non .none
 |bl (b:Bool):RdX H B (.bl b) (.bool b)
 |int (i:Int):RdX H B (.int i) (.int i)
 |str (x:Str) (h:x.length<=A6):RdX H B (.str x) (.str x)
 |lst {a:Addr} {xs:List V} {ds:List Aa}:H a=ae (.lst xs)->¬B a->xs.length<=A6->RdXs H B xs ds->RdX H B (.ref a) (.list ds)
 |tup {a:Addr} {xs:List V} {ds:List Aa}:H a=ae (.tup xs)->¬B a->xs.length<=A6->RdXs H B xs ds->RdX H B (.ref a) (.tuple ds)
inductive RdXs(H:Hp)(B:Addr->Prop):List V->List Aa->Prop
 |nil:RdXs H B [] []
 |cons {x:V} {xs:List V} {d:Aa} {ds:List Aa}:RdX H B x d->RdXs H B xs ds->RdXs H B (x::xs) (d::ds)
end
mutual
theorem RdX.move{H H':Hp}{B B':Addr->Prop}(k:∀b o,H b=ae o->¬B b->H' b=ae o/\¬B' b):∀{v:V}{d:Aa},RdX H B v d->RdX H' B' v d
 |_,_,.non=>.non
 |_,_,.bl b=>.bl b
 |_,_,.int i=>.int i
 |_,_,.str x h=>.str x h
 |_,_,.lst h1 h2 h3 h4=>.lst (k _ _ h1 h2).1 (k _ _ h1 h2).2 h3 (RdXs.move k h4)
 |_,_,.tup h1 h2 h3 h4=>.tup (k _ _ h1 h2).1 (k _ _ h1 h2).2 h3 (RdXs.move k h4)
theorem RdXs.move{H H':Hp}{B B':Addr->Prop}(k:∀b o,H b=ae o->¬B b->H' b=ae o/\¬B' b):∀{vs:List V}{ds:List Aa},RdXs H B vs ds->RdXs H' B' vs ds
 |_,_,.nil=>.nil
 |_,_,.cons h1 h2=>.cons (RdX.move k h1) (RdXs.move k h2)
end
section
variable{H H':Hp}{B B':Addr->Prop}{v:V}{d:Aa}{vs ws:List V}{ds es:List Aa}{t:Addr}
theorem RdX.kp(k:Kp t H H')(ht:B t)(h:RdX H B v d):RdX H' B v d:=h.move λb o e n=>⟨k b o e λz=>n (z▸ht),n⟩
theorem RdXs.kp(k:Kp t H H')(ht:B t)(h:RdXs H B vs ds):RdXs H' B vs ds:=h.move λb o e n=>⟨k b o e λz=>n (z▸ht),n⟩
theorem RdX.less(k:∀b,B' b->B b)(h:RdX H B v d):RdX H B' v d:=h.move λb o e n=>⟨e,λz=>n (k b z)⟩
theorem RdXs.less(k:∀b,B' b->B b)(h:RdXs H B vs ds):RdXs H B' vs ds:=h.move λb o e n=>⟨e,λz=>n (k b z)⟩
theorem RdXs.keep(k:∀b o,H b=ae o->¬B b->H' b=ae o)(h:RdXs H B vs ds):RdXs H' B vs ds:=h.move λb o e n=>⟨k b o e n,n⟩
theorem RdXs.len:∀{vs:List V}{ds:List Aa},RdXs H B vs ds->vs.length=ds.length
 |_,_,.nil=>rfl
 |_,_,.cons _ t=>by rw[Am,Am,RdXs.len t]
theorem RdXs.getD:∀{vs:List V}{ds:List Aa}{i:Nat}{d:Aa},RdXs H B vs ds->ds[i]?=ae d->∃v,vs[i]?=ae v/\RdX H B v d
 |_,_,_,_,.nil,e=>by simp at e
 |_,_,0,_,.cons h _,e=>by
  simp at e;subst e;exact⟨_,rfl,h⟩
 |_,_,i+1,d,.cons _ t,e=>by
  obtain⟨v,h1,h2⟩:=RdXs.getD (i:=i) (d:=d) t (by simpa using e);exact⟨v,by simpa using h1,h2⟩
theorem RdXs.append:∀{vs ws:List V}{ds es:List Aa},RdXs H B vs ds->RdXs H B ws es->RdXs H B (vs++ws) (ds++es)
 |_,_,_,_,.nil,h=>h
 |_,_,_,_,.cons h1 h2,h=>.cons h1 (RdXs.append h2 h)
theorem RdXs.set:∀{vs:List V}{ds:List Aa}(i:Nat){v:V}{d:Aa},RdXs H B vs ds->RdX H B v d->RdXs H B (vs.set i v) (ds.set i d)
 |_,_,_,_,_,.nil,_=>.nil
 |_,_,0,_,_,.cons _ t,h=>.cons h t
 |_,_,i+1,_,_,.cons q t,h=>.cons q (RdXs.set i t h)
theorem RdXs.take:∀{vs:List V}{ds:List Aa}(n:Nat),RdXs H B vs ds->RdXs H B (vs.take n) (ds.take n)
 |_,_,0,_=>.nil
 |_,_,_+1,.nil=>.nil
 |_,_,n+1,.cons r t=>.cons r (RdXs.take n t)
theorem RdXs.drop:∀{vs:List V}{ds:List Aa}(n:Nat),RdXs H B vs ds->RdXs H B (vs.drop n) (ds.drop n)
 |_,_,0,r=>r
 |_,_,_+1,.nil=>.nil
 |_,_,n+1,.cons _ t=>RdXs.drop n t
end
mutual
theorem RdX.rd{K:Ag}{H:Hp}{B:Addr->Prop}:∀{v:V}{d:Aa},RdX H B v d->RdD K H v d
 |_,_,.non=>.non
 |_,_,.bl b=>.bl b
 |_,_,.int i=>.int i
 |_,_,.str x h=>.str x
 |_,_,.lst h1 h2 h3 h4=>.lst (SqL.of h1) (RdXs.rd h4)
 |_,_,.tup h1 h2 h3 h4=>.tup (SqT.of h1) (RdXs.rd h4)
theorem RdXs.rd{K:Ag}{H:Hp}{B:Addr->Prop}:∀{vs:List V}{ds:List Aa},RdXs H B vs ds->RdAll K H vs ds
 |_,_,.nil=>.nil
 |_,_,.cons h1 h2=>.cons (RdX.rd h1) (RdXs.rd h2)
end
inductive Ob where
 |o|p (d:Aa)|k (m:List (bg×Aa))|q (d:Aa) (m:List (bg×Aa))
inductive Wv where
 |d (x:Aa)|tp|dk (kvs:List (bg×Aa))|ln (ds:List Aa)|ob (o:Ob)
def Wv.lent:Wv->Bool
 |.dk _=>ah
 |.ln _=>ah
 |_=>ai
inductive SV where
 |w (x:Wv)|own (ds:List Aa)|odk (kvs:List (bg×Aa))|odt (kvs:List (List bg×Aa))
abbrev Sl:=List (Option SV)
def RdK(H:Hp)(B:Addr->Prop):List (bg×V)->List (bg×Aa)->Prop:=Paired λp q=>p.1=q.1/\RdX H B p.2 q.2
theorem RdK.move(k:∀b o,H b=ae o->¬B b->H' b=ae o/\¬B' b)(h:RdK H B l m):RdK H' B' l m:=
 Paired.mapP h λ_ _ z=>⟨z.1,z.2.move k⟩
def RdT(H:Hp)(B:Addr->Prop):List (List bg×V)->List (List bg×Aa)->Prop:=Paired λp q=>p.1=q.1/\RdX H B p.2 q.2
theorem RdT.move(k:∀b o,H b=ae o->¬B b->H' b=ae o/\¬B' b)(h:RdT H B l m):RdT H' B' l m:=
 Paired.mapP h λ_ _ z=>⟨z.1,z.2.move k⟩
def ORel(H:Hp)(B:Addr->Prop)(v:V):Ob->Prop
 |.o=>∃a,v=.ref a
 |.p d=>∃a x y,v=.ref a/\H a=ae (.tup [x,y])/\¬B a/\RdX H B x d
 |.k m=>∃a l,v=.ref a/\H a=ae (.dK l)/\¬B a/\RdK H B l m
 |.q d m=>∃a x b l,v=.ref a/\H a=ae (.tup [x,.ref b])/\¬B a/\RdX H B x d/\H b=ae (.dK l)/\¬B b/\RdK H B l m
theorem ORel.move(k:∀b o,H b=ae o->¬B b->H' b=ae o/\¬B' b)(h:ORel H B v o):ORel H' B' v o:=by
 cases o with
 |o=>exact h
 |p d=>
  obtain⟨a,x,y,e,h1,h2,h3⟩:=h;exact⟨a,x,y,e,(k _ _ h1 h2).1,(k _ _ h1 h2).2,h3.move k⟩
 |k m=>
  obtain⟨a,l,e,h1,h2,h3⟩:=h;exact⟨a,l,e,(k _ _ h1 h2).1,(k _ _ h1 h2).2,h3.move k⟩
 |q d m=>
  obtain⟨a,x,b,l,e,h1,h2,h3,h4,h5,h6⟩:=h;exact⟨a,x,b,l,e,(k _ _ h1 h2).1,(k _ _ h1 h2).2,h3.move k,(k _ _ h4 h5).1,(k _ _ h4 h5).2,h6.move k⟩
def WRel(H:Hp)(B:Addr->Prop)(t:Addr)(v:V):Wv->Prop
 |.d x=>RdX H B v x
 |.tp=>v=.ref t
 |.dk kvs=>∃a l,v=.ref a/\H a=ae (.dK l)/\a≠t/\RdK H B l kvs
 |.ln ds=>∃a xs,v=.ref a/\H a=ae (.lst xs)/\a≠t/\xs.length<=A6/\RdXs H B xs ds
 |.ob o=>ORel H B v o
def SRel(H0:Hp)(H:Hp)(B:Addr->Prop)(t:Addr)(v:V):SV->Prop
 |.w x=>WRel H B t v x/\(x.lent=ah->∃a,v=.ref a/\H0 a≠af)
 |.own ds=>∃a xs,v=.ref a/\H a=ae (.lst xs)/\B a/\H0 a=af/\xs.length<=A6/\RdXs H B xs ds
 |.odk kvs=>∃a l,v=.ref a/\H a=ae (.dK l)/\B a/\H0 a=af/\l.length<=1000/\RdK H B l kvs
 |.odt kvs=>∃a l,v=.ref a/\H a=ae (.dT l)/\B a/\H0 a=af/\l.length<=1000/\RdT H B l kvs
def SV.isOwn:SV->Bool
 |.w _=>ai
 |_=>ah
structure Ctx where
 t:Addr
 l:TL
 ns:List Int
 H0:Hp
 B0:Addr->Prop
 fz:Hp
structure Rel(C:Ctx)(H:Hp)(B:Addr->Prop)(σ:St)(δ:Sl)(n:Int):Prop where
 tp:Tp H C.t C.l C.ns n
 kp:Kp C.t C.H0 H
 t0:C.H0 C.t≠af
 l0:C.H0 C.l.s≠af
 g0:nT=ah->C.H0 C.l.g≠af
 fz:∀b o,C.fz b=ae o->H b=ae o/\¬B b
 bt:B C.t
 b0:∀b,C.B0 b->B b
 ba:∀b,B b->H b≠af
 a0:∀b,C.B0 b->C.H0 b≠af
 sl:∀(i:Nat)(x:SV),δ[i]?=ae (ae x)->∃v,σ[i]?=ae (ae v)/\SRel C.H0 H B C.t v x
 ow:∀(i j:Nat)(x y:SV)(v:V),δ[i]?=ae (ae x)->δ[j]?=ae (ae y)->x.isOwn=ah->y.isOwn=ah->σ[i]?=ae (ae v)->σ[j]?=ae (ae v)->i=j
 len:σ.length=δ.length
theorem WRel.kp(k:Kp t H H')(ht:B t)(h:WRel H B t v x):WRel H' B t v x:=by
 cases x with
 |d x=>exact RdX.kp k ht h
 |tp=>exact h
 |dk kvs=>
  obtain⟨a,l,e,h1,h2,h3⟩:=h;exact⟨a,l,e,k _ _ h1 h2,h2,h3.move λb o e n=>⟨k b o e λz=>n (z▸ht),n⟩⟩
 |ln ds=>
  obtain⟨a,l,e,h1,h2,h3,h4⟩:=h;exact⟨a,l,e,k _ _ h1 h2,h2,h3,h4.kp k ht⟩
 |ob o=>exact ORel.move (λb o e n=>⟨k b o e λz=>n (z▸ht),n⟩) h
theorem WRel.less(k:∀b,B' b->B b)(h:WRel H B t v x):WRel H B' t v x:=by
 cases x with
 |d x=>exact RdX.less k h
 |tp=>exact h
 |dk kvs=>
  obtain⟨a,l,e,h1,h2,h3⟩:=h;exact⟨a,l,e,h1,h2,h3.move λb o e n=>⟨e,λz=>n (k b z)⟩⟩
 |ln ds=>
  obtain⟨a,l,e,h1,h2,h3,h4⟩:=h;exact⟨a,l,e,h1,h2,h3,h4.less k⟩
 |ob o=>exact ORel.move (λb o e n=>⟨e,λz=>n (k b z)⟩) h
theorem SRel.kp(k:Kp t H H')(ht:B t)(t0:H0 t≠af)(h:SRel H0 H B t v x):SRel H0 H' B t v x:=by
 cases x with
 |w x=>exact⟨h.1.kp k ht,h.2⟩
 |own ds=>
  obtain⟨a,xs,e,h1,h2,h3,h4,h5⟩:=h;exact⟨a,xs,e,k _ _ h1 (λz=>t0 (z▸h3)),h2,h3,h4,h5.kp k ht⟩
 |odk kvs=>
  obtain⟨a,l,e,h1,h2,h3,h4,h5⟩:=h;exact⟨a,l,e,k _ _ h1 (λz=>t0 (z▸h3)),h2,h3,h4,h5.move λb o e n=>⟨k b o e λz=>n (z▸ht),n⟩⟩
 |odt kvs=>
  obtain⟨a,l,e,h1,h2,h3,h4,h5⟩:=h;exact⟨a,l,e,k _ _ h1 (λz=>t0 (z▸h3)),h2,h3,h4,h5.move λb o e n=>⟨k b o e λz=>n (z▸ht),n⟩⟩
theorem Rel.step(R:Rel C H B σ δ n)(T:Tp H' C.t C.l C.ns n')(k:Kp C.t H H'):Rel C H' B σ δ n' where
 tp:=T
 kp:=R.kp.trans k
 t0:=R.t0
 l0:=R.l0
 g0:=R.g0
 fz:=λb o e=>⟨k b o (R.fz b o e).1 λz=>(R.fz b o e).2 (z▸R.bt),(R.fz b o e).2⟩
 bt:=R.bt
 b0:=R.b0
 ba:=λb hb e=>by
  by_cases z:b=C.t
  ·subst z;obtain⟨x,y,h,_⟩:=T.ob;rw[h]at e;cases e
  ·cases q:H b with
   |none=>exact R.ba b hb q
   |some o=>rw[k b o q z]at e;cases e
 a0:=R.a0
 sl:=λi x e=>by
  obtain⟨v,h1,h2⟩:=R.sl i x e;exact⟨v,h1,h2.kp k R.bt R.t0⟩
 ow:=R.ow
 len:=R.len
theorem Rel.new(R:Rel C H B σ δ n)(h:H p=af):Rel C (upd H p o) B σ δ n:=R.step (R.tp.new h) (Kp.new h)
theorem Rel.nb(R:Rel C H B σ δ n)(h:H p=af):¬B p:=λz=>R.ba p z h
theorem gL{α:Type}{l:List (Option α)}{x y:α}(h:(l.set i (ae x))[j]?=ae (ae y)):(j=i/\y=x)\/(j≠i/\l[j]?=ae (ae y)):=by
 by_cases e:i=j
 ·subst e;rw[Gf]at h;cases q:l[i]? with
  |none=>rw[q]at h;cases h
  |some z=>
   rw[q]at h;exact .inl ⟨rfl,(B3 (B3 h)).symm⟩
 ·rw[Dm e]at h;exact .inr ⟨λz=>e z.symm,h⟩
theorem qW{α:Type}{l:List (Option α)}{x y:Option α}(h:(l.set i x)[i]?=ae y):i < l.length:=by
 have:=(Bu.mp h).1;rwa [Dt]at this
theorem rh{α:Type}{l:List (Option α)}{x:α}(h:i < l.length):(l.set i (ae x))[i]?=ae (ae x):=by simp[h]
theorem kD{α:Type}{l:List (Option α)}{x:α}(h:j≠i):(l.set i (ae x))[j]?=l[j]?:=Dm (λz=>h z.symm)
theorem Rel.set(R:Rel C H B σ δ n)(h:WRel H B C.t v x)(hx:x.lent=ai):Rel C H B (σ.set i (ae v)) (δ.set i (ae (.w x))) n where
 tp:=R.tp
 kp:=R.kp
 t0:=R.t0
 l0:=R.l0
 g0:=R.g0
 fz:=R.fz
 bt:=R.bt
 b0:=R.b0
 ba:=R.ba
 a0:=R.a0
 sl:=λj y e=>by
  rcases gL e with⟨rfl,rfl⟩|⟨ne,e'⟩
  ·exact⟨v,rh (by rw[R.len];exact qW e),h,λz=>by rw[hx]at z;cases z⟩
  ·obtain⟨u,h1,h2⟩:=R.sl j y e';exact⟨u,by rw[kD ne];exact h1,h2⟩
 ow:=λj k y z u e1 e2 o1 o2 f1 f2=>by
  rcases gL e1 with⟨rfl,rfl⟩|⟨ne1,e1'⟩
  ·cases o1
  ·rcases gL e2 with⟨rfl,rfl⟩|⟨ne2,e2'⟩
   ·cases o2
   ·rw[kD ne1]at f1;rw[kD ne2]at f2;exact R.ow j k y z u e1' e2' o1 o2 f1 f2
 len:=by rw[Dt,Dt];exact R.len
theorem Rel.mut(R:Rel C H B σ δ n)(hb:B a)(h0:C.H0 a=af)
  (ho:∀(i:Nat)(x:SV),δ[i]?=ae (ae x)->x.isOwn=ah->σ[i]?≠ae (ae (.ref a))):Rel C (upd H a o) B σ δ n where
 tp:=R.tp.other (λz=>R.t0 (z▸h0)) (λz=>R.l0 (z▸h0)) (λe z=>R.g0 e (z▸h0))
 kp:=λb o' e ne=>by
  rw[bc (b5 e h0)];exact R.kp b o' e ne
 t0:=R.t0
 l0:=R.l0
 g0:=R.g0
 fz:=λb o' e=>⟨by rw[bc λ(z:b=a)=>(R.fz b o' e).2 (z▸hb)];exact(R.fz b o' e).1,(R.fz b o' e).2⟩
 bt:=R.bt
 b0:=R.b0
 ba:=λb hb' e=>by
  by_cases z:b=a
  ·rw[z,bL]at e;cases e
  ·rw[bc z]at e;exact R.ba b hb' e
 a0:=R.a0
 sl:=λi x e=>by
  obtain⟨v,h1,h2⟩:=R.sl i x e;have mv:∀b o',H b=ae o'->¬B b->upd H a o b=ae o'/\¬B b:=λb o' e n=>⟨by rw[bc λ(z:b=a)=>n (z▸hb)];exact e,n⟩;refine⟨v,h1,?_⟩;cases x with
  |w x=>
   refine⟨?_,h2.2⟩;cases x with
   |d x=>exact h2.1.move mv
   |tp=>exact h2.1
   |dk kvs=>
    obtain⟨a',l,e1,e2,e3,e4⟩:=h2.1;obtain⟨a'',f1,f2⟩:=h2.2 rfl;rw[e1]at f1;cases f1;exact⟨a',l,e1,by rw[bc λ(z:a'=a)=>f2 (z▸h0)];exact e2,e3,e4.move mv⟩
   |ln ds=>
    obtain⟨a',l,e1,e2,e3,e4,e5⟩:=h2.1;obtain⟨a'',f1,f2⟩:=h2.2 rfl;rw[e1]at f1;cases f1;exact⟨a',l,e1,by rw[bc λ(z:a'=a)=>f2 (z▸h0)];exact e2,e3,e4,e5.move mv⟩
   |ob o=>exact ORel.move mv h2.1
  |own ds=>
   obtain⟨a',xs,e1,e2,e3,e4,e5,e6⟩:=h2;have ne:a'≠a:=λz=>ho i _ e rfl (by rw[h1,e1,z]);exact⟨a',xs,e1,by rw[bc ne];exact e2,e3,e4,e5,e6.move mv⟩
  |odk kvs=>
   obtain⟨a',xs,e1,e2,e3,e4,e5,e6⟩:=h2;have ne:a'≠a:=λz=>ho i _ e rfl (by rw[h1,e1,z]);exact⟨a',xs,e1,by rw[bc ne];exact e2,e3,e4,e5,e6.move mv⟩
  |odt kvs=>
   obtain⟨a',xs,e1,e2,e3,e4,e5,e6⟩:=h2;have ne:a'≠a:=λz=>ho i _ e rfl (by rw[h1,e1,z]);exact⟨a',xs,e1,by rw[bc ne];exact e2,e3,e4,e5,e6.move mv⟩
 ow:=R.ow
 len:=R.len
theorem Rel.mutOwn(R:Rel C H B σ δ n)(hi:δ[i]?=ae (ae x))(hx:x.isOwn=ah)(hσ:σ[i]?=ae (ae (.ref a)))(hb:B a)(h0:C.H0 a=af)
  (h:SRel C.H0 (upd H a o) B C.t (.ref a) x') (hx':x'.isOwn=ah):Rel C (upd H a o) B σ (δ.set i (ae x')) n:=by
 have R1:Rel C H B σ (δ.set i af) n:={
  tp:=R.tp,kp:=R.kp,t0:=R.t0,l0:=R.l0,g0:=R.g0,fz:=R.fz,bt:=R.bt,b0:=R.b0,ba:=R.ba,a0:=R.a0
  sl:=λj y e=>by
   by_cases z:i=j
   ·subst z;rw[Gf]at e;rw[hi]at e;cases e
   ·rw[Dm z]at e;exact R.sl j y e
  ow:=λj k y z u e1 e2 o1 o2 f1 f2=>by
   have g:∀{m:Nat}{w:SV},(δ.set i af)[m]?=ae (ae w)->δ[m]?=ae (ae w):=λ{m w} e=>by
    by_cases q:i=m
    ·subst q;rw[Gf,hi]at e;cases e
    ·rwa [Dm q]at e
   exact R.ow j k y z u (g e1) (g e2) o1 o2 f1 f2
  len:=by rw[Dt];exact R.len}
 have R2:Rel C (upd H a o) B σ (δ.set i af) n:=R1.mut hb h0 λj y e oy f=>by
  by_cases z:i=j
  ·subst z;rw[Gf,hi]at e;cases e
  ·rw[Dm z]at e;exact z (R.ow i j x y _ hi e hx oy hσ f)
 have hlt:i < δ.length:=(Bu.mp hi).1;exact{
  tp:=R2.tp,kp:=R2.kp,t0:=R2.t0,l0:=R2.l0,g0:=R2.g0,fz:=R2.fz,bt:=R2.bt,b0:=R2.b0,ba:=R2.ba,a0:=R2.a0
  sl:=λj y e=>by
   rcases gL e with⟨rfl,rfl⟩|⟨ne,e'⟩
   ·exact⟨_,hσ,h⟩
   ·exact R2.sl j y (by rw[Dm λz=>ne z.symm];exact e')
  ow:=λj k y z u e1 e2 o1 o2 f1 f2=>by
   rcases gL e1 with⟨rfl,rfl⟩|⟨ne1,e1'⟩
   ·rcases gL e2 with⟨rfl,rfl⟩|⟨ne2,e2'⟩
    ·rfl
    ·exact R.ow _ _ x z u hi e2' hx o2 f1 f2
   ·rcases gL e2 with⟨rfl,rfl⟩|⟨ne2,e2'⟩
    ·exact R.ow _ _ y x u e1' hi o1 hx f1 f2
    ·exact R.ow j k y z u e1' e2' o1 o2 f1 f2
  len:=by rw[Dt];exact R.len}
theorem Rel.own(R:Rel C H B σ δ n)(R':Rel C H' B σ δ n')(k:Kp C.t H H')(h0:H a=af)(h1:H' a≠af)(hx:x.isOwn=ah)
  (h:SRel C.H0 H' (λb=>B b\/b=a) C.t (.ref a) x):Rel C H' (λb=>B b\/b=a) (σ.set i (ae (.ref a))) (δ.set i (ae x)) n' where
 tp:=R'.tp
 kp:=R'.kp
 t0:=R'.t0
 l0:=R'.l0
 g0:=R'.g0
 fz:=λb o e=>⟨(R'.fz b o e).1,λz=>z.elim (R'.fz b o e).2 λq=>b5 (R.fz b o e).1 h0 q⟩
 bt:=.inl R.bt
 b0:=λb z=>.inl (R.b0 b z)
 ba:=λb z=>z.elim (R'.ba b) λq=>q▸h1
 a0:=R.a0
 sl:=λj y e=>by
  have hta:C.t≠a:=λz=>by
   obtain⟨_,_,q,_⟩:=R.tp.ob;rw[z,h0]at q;cases q
  have mv:∀b o',H b=ae o'->¬B b->H' b=ae o'/\¬(B b\/b=a):=λb o' e n=>⟨k b o' e λz=>n (z▸R.bt),λz=>z.elim n λq=>b5 e h0 q⟩;rcases gL e with⟨rfl,rfl⟩|⟨ne,e'⟩
  ·exact⟨_,rh (by rw[R.len];exact qW e),h⟩
  ·obtain⟨v,f1,f2⟩:=R.sl j y e';refine⟨v,by rw[kD ne];exact f1,?_⟩;cases y with
   |w y=>
    refine⟨?_,f2.2⟩;cases y with
    |d y=>exact f2.1.move mv
    |tp=>exact f2.1
    |dk kvs=>
     obtain⟨a',l,e1,e2,e3,e4⟩:=f2.1;exact⟨a',l,e1,k _ _ e2 e3,e3,e4.move mv⟩
    |ln ds=>
     obtain⟨a',l,e1,e2,e3,e4,e5⟩:=f2.1;exact⟨a',l,e1,k _ _ e2 e3,e3,e4,e5.move mv⟩
    |ob o=>exact ORel.move mv f2.1
   |own ds=>
    obtain⟨a',xs,e1,e2,e3,e4,e5,e6⟩:=f2;exact⟨a',xs,e1,k _ _ e2 (λz=>R.t0 (z▸e4)),.inl e3,e4,e5,e6.move mv⟩
   |odk kvs=>
    obtain⟨a',xs,e1,e2,e3,e4,e5,e6⟩:=f2;exact⟨a',xs,e1,k _ _ e2 (λz=>R.t0 (z▸e4)),.inl e3,e4,e5,e6.move mv⟩
   |odt kvs=>
    obtain⟨a',xs,e1,e2,e3,e4,e5,e6⟩:=f2;exact⟨a',xs,e1,k _ _ e2 (λz=>R.t0 (z▸e4)),.inl e3,e4,e5,e6.move mv⟩
 ow:=λj m y z u e1 e2 o1 o2 f1 f2=>by
  have out:∀{p:Nat}{w:SV},δ[p]?=ae (ae w)->w.isOwn=ah->σ[p]?=ae (ae (.ref a))->False:=λ{p w} e ow f=>by
   obtain⟨v,g1,g2⟩:=R.sl p w e;rw[f]at g1;cases g1;cases w with
   |w _=>cases ow
   |own ds=>
    obtain⟨a',xs,e1,e2,_⟩:=g2;cases e1;rw[h0]at e2;cases e2
   |odk ds=>
    obtain⟨a',xs,e1,e2,_⟩:=g2;cases e1;rw[h0]at e2;cases e2
   |odt ds=>
    obtain⟨a',xs,e1,e2,_⟩:=g2;cases e1;rw[h0]at e2;cases e2
  rcases gL e1 with⟨rfl,rfl⟩|⟨ne1,e1'⟩
  ·rcases gL e2 with⟨rfl,rfl⟩|⟨ne2,e2'⟩
   ·rfl
   ·rw[rh (by rw[R.len];exact qW e1)]at f1;rw[kD ne2]at f2;cases f1;exact(out e2' o2 f2).elim
  ·rcases gL e2 with⟨rfl,rfl⟩|⟨ne2,e2'⟩
   ·rw[rh (by rw[R.len];exact qW e2)]at f2;rw[kD ne1]at f1;cases f2;exact(out e1' o1 f1).elim
   ·rw[kD ne1]at f1;rw[kD ne2]at f2;exact R.ow j m y z u e1' e2' o1 o2 f1 f2
 len:=by rw[Dt,Dt];exact R.len
theorem Rel.give(R:Rel C H B σ δ n)(hi:δ[i]?=ae (ae x))(ox:x.isOwn=ah)(hv:σ[i]?=ae (ae (.ref a)))(e4:C.H0 a=af)(hy:WRel H (λb=>B b/\b≠a) C.t (.ref a) y)(hl:y.lent=ai):Rel C H (λb=>B b/\b≠a) σ (δ.set i (ae (.w y))) n:=by
 have less:∀b,(B b/\b≠a)->B b:=λb z=>z.1;exact{
  tp:=R.tp,kp:=R.kp,t0:=R.t0,l0:=R.l0,g0:=R.g0
  fz:=λb o e=>⟨(R.fz b o e).1,λz=>(R.fz b o e).2 z.1⟩
  bt:=⟨R.bt,λz=>R.t0 (z▸e4)⟩
  b0:=λb z=>⟨R.b0 b z,λq=>R.a0 b z (q▸e4)⟩
  ba:=λb z=>R.ba b z.1
  a0:=R.a0
  sl:=λj y' e=>by
   rcases gL e with⟨rfl,rfl⟩|⟨ne,e'⟩
   ·exact⟨_,hv,hy,λz=>by rw[hl]at z;cases z⟩
   ·obtain⟨u,f1,f2⟩:=R.sl j y' e';refine⟨u,f1,?_⟩;cases y' with
    |w y=>exact⟨f2.1.less less,f2.2⟩
    |own ds'=>
     obtain⟨a',xs',g1,g2,g3,g4,g5,g6⟩:=f2;refine⟨a',xs',g1,g2,⟨g3,λz=>?_⟩,g4,g5,g6.less less⟩;exact ne (R.ow j i _ _ _ e' hi rfl ox f1 (by rw[hv,g1,z]))
    |odk ds'=>
     obtain⟨a',xs',g1,g2,g3,g4,g5,g6⟩:=f2;refine⟨a',xs',g1,g2,⟨g3,λz=>?_⟩,g4,g5,g6.move λb o e n=>⟨e,λz=>n z.1⟩⟩;exact ne (R.ow j i _ _ _ e' hi rfl ox f1 (by rw[hv,g1,z]))
    |odt ds'=>
     obtain⟨a',xs',g1,g2,g3,g4,g5,g6⟩:=f2;refine⟨a',xs',g1,g2,⟨g3,λz=>?_⟩,g4,g5,g6.move λb o e n=>⟨e,λz=>n z.1⟩⟩;exact ne (R.ow j i _ _ _ e' hi rfl ox f1 (by rw[hv,g1,z]))
  ow:=λj k y z u e1 e2 o1 o2 f1 f2=>by
   rcases gL e1 with⟨rfl,rfl⟩|⟨ne1,e1'⟩
   ·cases o1
   ·rcases gL e2 with⟨rfl,rfl⟩|⟨ne2,e2'⟩
    ·cases o2
    ·exact R.ow j k y z u e1' e2' o1 o2 f1 f2
  len:=by rw[Dt];exact R.len}
theorem Rel.frz{n:Int}{i:Nat}{ds:List Aa}(R:Rel C H B σ δ n)(hi:δ[i]?=ae (ae (.own ds))):∃B',Rel C H B' σ (δ.set i (↑(.list ds))) n:=by
 obtain⟨v,hv,a,xs,rfl,e2,e3,e4,e5,e6⟩:=R.sl i _ hi;exact⟨_,R.give hi rfl hv e4 (show RdX H _ (.ref a) (.list ds)from .lst e2 (λz=>z.2 rfl) e5 (e6.less λb z=>z.1)) rfl⟩
theorem Rel.frzK(R:Rel C H B σ δ n)(hi:δ[i]?=ae (ae (.odk m))):∃B',Rel C H B' σ (δ.set i (ae (.w (.ob (.k m))))) n:=by
 obtain⟨v,hv,a,xs,rfl,e2,e3,e4,e5,e6⟩:=R.sl i _ hi;exact⟨_,R.give hi rfl hv e4 ⟨a,xs,rfl,e2,λz=>z.2 rfl,e6.move λb o e n=>⟨e,λz=>n z.1⟩⟩ rfl⟩
abbrev DQ:=Wv->Int->Prop
abbrev DT:=Sl->Int->DQ->Prop
abbrev cI:=Sl->Int->(Bool->Int->Prop)->Prop
abbrev fC:=Sl->Int->(List Wv->Int->Prop)->Prop
inductive ARel(H:Hp)(B:Addr->Prop)(t:Addr):List V->List Wv->Prop
 |nil:ARel H B t [] []
 |cons {v:V} {vs:List V} {x:Wv} {xs:List Wv}:WRel H B t v x->ARel H B t vs xs->ARel H B t (v::vs) (x::xs)
theorem ARel.kp(k:Kp t H H')(ht:B t):∀{vs:List V}{xs:List Wv},ARel H B t vs xs->ARel H' B t vs xs
 |_,_,.nil=>.nil
 |_,_,.cons a b=>.cons (a.kp k ht) (ARel.kp k ht b)
theorem ARel.len:∀{vs:List V}{xs:List Wv},ARel H B t vs xs->vs.length=xs.length
 |_,_,.nil=>rfl
 |_,_,.cons _ b=>by rw[Am,Am,ARel.len b]
def fZ(t:TE)(w:DT):Prop:=∀(C:Ctx)(H:Hp)(B:Addr->Prop)(σ:St)(δ:Sl)(n:Int)(Q:DQ)(Q':VK),Rel C H B σ δ n->w δ n Q->
 (∀v x H' n',Rel C H' B σ δ n'->Kp C.t H H'->WRel H' B C.t v x->Q x n'->Q' v H')->t σ H Q'
def j2(t:TT)(w:cI):Prop:=∀(C:Ctx)(H:Hp)(B:Addr->Prop)(σ:St)(δ:Sl)(n:Int)(Q:Bool->Int->Prop)(Q':Bool->Hp->Prop),Rel C H B σ δ n->w δ n Q->
 (∀b H' n',Rel C H' B σ δ n'->Kp C.t H H'->Q b n'->Q' b H')->t σ H Q'
def j8(t:TA)(w:fC):Prop:=∀(C:Ctx)(H:Hp)(B:Addr->Prop)(σ:St)(δ:Sl)(n:Int)(Q:List Wv->Int->Prop)(Q':List V->Hp->Prop),Rel C H B σ δ n->w δ n Q->
 (∀vs xs H' n',Rel C H' B σ δ n'->Kp C.t H H'->ARel H' B C.t vs xs->Q xs n'->Q' vs H')->t σ H Q'
abbrev fK:=Sl->Int->(List Aa->Int->Prop)->Prop
def jO(t:TE)(w:fK):Prop:=∀(C:Ctx)(H:Hp)(B:Addr->Prop)(σ:St)(δ:Sl)(n:Int)(Q:List Aa->Int->Prop)(Q':VK),Rel C H B σ δ n->w δ n Q->
 (∀a xs ds H' n',Rel C H' B σ δ n'->Kp C.t H H'->H a=af->H' a=ae (.lst xs)->xs.length<=A6->RdXs H' (λb=>B b\/b=a) xs ds->Q ds n'->Q' (.ref a) H')->t σ H Q'
structure DE(X:Cx)(e:Expr)(t:TE)(w:DT):Prop where
 pe:PE X e t
 sd:fZ t w
structure DC(X:Cx)(e:Expr)(t:TT)(w:cI):Prop where
 pt:PT X e t
 sd:j2 t w
structure DCW(X:Cx)(e:Expr)(t:TT)(w:cI):Prop where
 pw:PW X e t
 sd:j2 t w
structure DA(X:Cx)(es:List Expr)(t:TA)(w:fC):Prop where
 pa:PA X es t
 sd:j8 t w
structure DF(X:Cx)(e:Expr)(t:TE)(w:fK):Prop where
 pe:PE X e t
 sd:jO t w
variable{X:Cx}{a b c e:Expr}{ta tb tc te:TE}{wa wb wc we:DT}{pos:Pos}
def aj(i:Nat):DT:=λδ n Q=>match δ[i]? with
 |some (ae (.w x))=>Q x n
 |_=>False
theorem ji(i){p:Pos}(hN:X.N[i]?=ae x:=by rfl)(hv:gT X.env.scope x:=by first|exact Dr rfl|exact Cw (Dr rfl)|exact Cw (Cw rfl))(hd:(x==("__debug__":Str))=ai:=by decide)
  (hcd:(x==("__classdict__":Str))=ai:=by decide):DE X (.Name x p) (b9 i) (aj i):=⟨jw hN hv hd hcd,λC H B σ δ n Q Q' R h k=>by
 unfold aj at h
 split at h
 ·rename_i x e;obtain⟨v,h1,h2⟩:=R.sl i _ e;exact⟨v,h1,k v x H n R (Kp.refl _ _) h2.1 h⟩
 ·exact h.elim⟩
def wC(d:Aa):DT:=λ_ n Q=>Q (.d d) n
theorem mV(h:∀H B,RdX H B v d):fZ (tC v) (wC d):=λC H B σ δ n Q Q' R q k=>k v (.d d) H n R (Kp.refl _ _) (h H B) q
theorem zF{i j p}:DE X (.Constant (.int i) j p) (tC (.int i)) (wC (.int i)):=⟨cC,mV λ_ _=>.int i⟩
theorem vP{i j p}:DE X (.Constant (.bool i) j p) (tC (.bl i)) (wC (.bool i)):=⟨XF,mV λ_ _=>.bl i⟩
theorem UG{j p}:DE X (.Constant .none j p) (tC .non) (wC .none):=⟨sZ,mV λ_ _=>.non⟩
theorem CJ{x j p}(h:Str.length x<=A6:=by decide +kernel):DE X (.Constant (.str x) j p) (tC (.str x)) (wC (.str x)):=⟨nQ,mV λ_ _=>.str x h⟩
theorem Nu(hg:Gl X x)(hm:X.mg x=ae (.int i tk))(hd:(x==("__debug__":Str))=ai:=by decide):DE X (.Name x p) (tC (.int i)) (wC (.int i)):=⟨kO hg hm ⟨tk,rfl⟩ hd,mV λ_ _=>.int i⟩
def w2(wa wb:DT)(g:Wv->Wv->Int->DQ->Prop):DT:=λδ n Q=>wa δ n λx n1=>wb δ n1 λy n2=>g x y n2 Q
def bC(r:R2)(g:Wv->Wv->Int->DQ->Prop):Prop:=∀(C:Ctx)(H:Hp)(B:Addr->Prop)(σ:St)(δ:Sl)(n:Int)(x y:V)(p q:Wv)(Q:DQ)(Q':VK),Rel C H B σ δ n->WRel H B C.t x p->WRel H B C.t y q->g p q n Q->
 (∀v x H' n',Rel C H' B σ δ n'->Kp C.t H H'->WRel H' B C.t v x->Q x n'->Q' v H')->r x y H Q'
theorem pW(hr:bC r g)(ha:fZ ta wa)(hb:fZ tb wb):fZ (d3 r ta tb) (w2 wa wb g):=λC H B σ δ n Q Q' R h k=>
 ha C H B σ δ n _ _ R h λv x H1 n1 R1 k1 r1 q1=>hb C H1 B σ δ n1 _ _ R1 q1 λu y H2 n2 R2 k2 r2 q2=>
  hr C H2 B σ δ n2 v u x y Q Q' R2 (r1.kp k2 R1.bt) r2 q2 λz p H3 n3 R3 k3 r3 q3=>k z p H3 n3 R3 ((k1.trans k2).trans k3) r3 q3
theorem i8(ho:OpR X (Fd op) r)(hr:bC r g)(ha:DE X a ta wa)(hb:DE X b tb wb):DE X (.BinOp a op b pos) (d3 r ta tb) (w2 wa wb g):=
 ⟨eO ho ha.pe hb.pe,pW hr ha.sd hb.sd⟩
theorem jS(ho:OpR X (B4 op) r)(hr:bC r g)(ha:DE X a ta wa)(hb:DE X b tb wb)(hm:Dw op b=ai):DE X (.Compare a [op] [b] pos) (d3 r ta tb) (w2 wa wb g):=
 ⟨JQ ho ha.pe hb.pe hm,pW hr ha.sd hb.sd⟩
def cT(w:DT):cI:=λδ n Q=>w δ n λx n'=>match x with
 |.d (.bool k)=>Q k n'
 |_=>False
theorem wd(h:RdX H B v d):WRel H B t v (.d d):=h
theorem qz(h:fZ t w):j2 (kM t) (cT w):=λC H B σ δ n Q Q' R q k=>
 h C H B σ δ n _ _ R q λv x H' n' R' k' r' q'=>by
  split at q'
  ·rename_i b;cases(show RdX H' B v (.bool b)from r');exact⟨b,rfl,k b H' n' R' k' q'⟩
  ·exact q'.elim
theorem gK(ho:OpR X (B4 op) r)(hr:bC r g)(ha:DE X a ta wa)(hb:DE X b tb wb)(hm:Dw op b=ai):DC X (.Compare a [op] [b] pos) (kM (d3 r ta tb)) (cT (w2 wa wb g)):=
 ⟨jx ho ha.pe hb.pe hm,qz (pW hr ha.sd hb.sd)⟩
theorem U5(h:DE X e t w)(he:∀whole,isTrue e X.env whole=(do let v <-whole;standAt e.pos;holding [v] (truthy v)):=by intro _;rfl):DC X e (kM t) (cT w):=⟨Li h.pe he,qz h.sd⟩
def iS(x:Wv)(A B:Prop):Prop:=match x with
 |.d (.bool ah)=>A
 |.d (.bool ai)=>B
 |_=>False
theorem eP(b)(A B):iS (.d (.bool b)) A B=if b=ah then A else B:=by cases b<;>simp[iS]
def cV(g g':Wv->Wv->Int->DQ->Prop)(wa wb wc:DT):DT:=λδ n Q=>wa δ n λx n1=>wb δ n1 λy n2=>g x y n2 λz n3=>iS z (wc δ n3 λu n4=>g' y u n4 Q) (Q (.d (.bool ai)) n3)
theorem Ii(hr:bC r g)(hr':bC r' g')(ha:fZ ta wa)(hb:fZ tb wb)(hc:fZ tc wc):fZ (pP r r' ta tb tc) (cV g g' wa wb wc):=λC H B σ δ n Q Q' R h k=>
 ha C H B σ δ n _ _ R h λv x H1 n1 R1 k1 r1 q1=>hb C H1 B σ δ n1 _ _ R1 q1 λu y H2 n2 R2 k2 r2 q2=>
  hr C H2 B σ δ n2 v u x y _ _ R2 (r1.kp k2 R1.bt) r2 q2 λz p H3 n3 R3 k3 r3 q3=>by
   have k13:=(k1.trans k2).trans k3;unfold iS at q3
   split at q3
   ·cases(show RdX H3 B z (.bool ah)from r3);refine⟨ah,rfl,?_⟩;rw[if_pos rfl];exact hc C H3 B σ δ n3 _ _ R3 q3 λw0 x0 H4 n4 R4 k4 r4 q4=>hr' C H4 B σ δ n4 u w0 y x0 Q Q' R4 ((r2.kp k3 R2.bt).kp k4 R3.bt) r4 q4 λz p H5 n5 R5 k5 r5 q5=>k z p H5 n5 R5 ((k13.trans k4).trans k5) r5 q5
   ·cases(show RdX H3 B z (.bool ai)from r3);refine⟨ai,rfl,?_⟩;rw[if_neg Al];exact k _ _ H3 n3 R3 k13 (wd (.bl ai)) q3
   ·exact q3.elim
theorem Tg(ho:OpR X (B4 op) r)(hr:bC r g)(ho':OpR X (B4 op') r')(hr':bC r' g')(ha:DE X a ta wa)(hb:DE X b tb wb)(hc:DE X c tc wc)
  (hm:lastMarks [op,op'] [b,c]=ai:=by with_unfolding_all rfl):DE X (.Compare a [op,op'] [b,c] pos) (pP r r' ta tb tc) (cV g g' wa wb wc):=⟨UO ho ho' ha.pe hb.pe hc.pe hm,Ii hr hr' ha.sd hb.sd hc.sd⟩
theorem MX(ho:OpR X (B4 op) r)(hr:bC r g)(ho':OpR X (B4 op') r')(hr':bC r' g')(ha:DE X a ta wa)(hb:DE X b tb wb)(hc:DE X c tc wc)
  (hm:lastMarks [op,op'] [b,c]=ai:=by with_unfolding_all rfl):DC X (.Compare a [op,op'] [b,c] pos) (kM (pP r r' ta tb tc)) (cT (cV g g' wa wb wc)):=⟨OD ho ho' ha.pe hb.pe hc.pe hm,qz (Ii hr hr' ha.sd hb.sd hc.sd)⟩
variable{tA tB':TT}{cA cB:cI}{rest:List Expr}
def df(u v:cI):cI:=λδ n Q=>u δ n λb n1=>if b=ah then v δ n1 Q else Q ai n1
def cE(u v:cI):cI:=λδ n Q=>u δ n λb n1=>if b=ah then Q ah n1 else v δ n1 Q
def bw(u:cI):cI:=λδ n Q=>u δ n λb n1=>Q (!b) n1
theorem cw_and1(h:DC X a tA cA):DCW X (.BoolOp .And [a] pos) tA cA:=⟨Jr h.pt,h.sd⟩
theorem cw_or1(h:DC X a tA cA):DCW X (.BoolOp .Or [a] pos) tA cA:=⟨V9 h.pt,h.sd⟩
theorem cw_and(h:DC X a tA cA)(h2:DCW X (.BoolOp .And (b::rest) pos) tB' cB):DCW X (.BoolOp .And (a::b::rest) pos) (qG tA tB') (df cA cB):=⟨Ip h.pt h2.pw,λC H B σ δ n Q Q' R q k=>
 h.sd C H B σ δ n _ _ R q λb H1 n1 R1 k1 q1=>by
  cases b with
  |true=>
   rw[if_pos rfl]at q1 ⊢;exact h2.sd C H1 B σ δ n1 _ _ R1 q1 λb H2 n2 R2 k2 q2=>k b H2 n2 R2 (k1.trans k2) q2
  |false=>
   rw[if_neg Al]at q1 ⊢;exact k ai H1 n1 R1 k1 q1⟩
theorem cw_or(h:DC X a tA cA)(h2:DCW X (.BoolOp .Or (b::rest) pos) tB' cB):DCW X (.BoolOp .Or (a::b::rest) pos) (Jl tA tB') (cE cA cB):=⟨QL h.pt h2.pw,λC H B σ δ n Q Q' R q k=>
 h.sd C H B σ δ n _ _ R q λb H1 n1 R1 k1 q1=>by
  cases b with
  |true=>
   rw[if_pos rfl]at q1 ⊢;exact k ah H1 n1 R1 k1 q1
  |false=>
   rw[if_neg Al]at q1 ⊢;exact h2.sd C H1 B σ δ n1 _ _ R1 q1 λb H2 n2 R2 k2 q2=>k b H2 n2 R2 (k1.trans k2) q2⟩
theorem DCW.cc(h:DCW X a tA cA):DC X a tA cA:=⟨h.pw.pt,h.sd⟩
theorem Xy(h:DC X a tA cA):DC X (.UnaryOp .Not a pos) (lD tA) (bw cA):=⟨IL h.pt,λC H B σ δ n Q Q' R q k=>h.sd C H B σ δ n _ _ R q λb H1 n1 R1 k1 q1=>k (!b) H1 n1 R1 k1 q1⟩
def aM(u v:DT):DT:=λδ n Q=>u δ n λx n1=>iS x (v δ n1 Q) (Q (.d (.bool ai)) n1)
def ec(u v:DT):DT:=λδ n Q=>u δ n λx n1=>iS x (Q (.d (.bool ah)) n1) (v δ n1 Q)
def cy(u:DT):DT:=λδ n Q=>u δ n λx n1=>match x with
 |.d (.bool b)=>Q (.d (.bool !b)) n1
 |_=>False
theorem ZE{op}(h:DE X a ta wa):DE X (.BoolOp op [a] pos) ta wa:=⟨Mr h.pe,h.sd⟩
theorem TQ(h:DE X a ta wa)(h2:DE X (.BoolOp .And (b::rest) pos) tb wb):DE X (.BoolOp .And (a::b::rest) pos) (Ie ta tb) (aM wa wb):=⟨Wd h.pe h2.pe,λC H B σ δ n Q Q' R q k=>
 h.sd C H B σ δ n _ _ R q λv x H1 n1 R1 k1 r1 q1=>by
  unfold iS at q1
  split at q1
  ·cases(show RdX H1 B v (.bool ah)from r1);refine⟨ah,rfl,?_⟩;rw[if_pos rfl];exact h2.sd C H1 B σ δ n1 _ _ R1 q1 λv x H2 n2 R2 k2 r2 q2=>k v x H2 n2 R2 (k1.trans k2) r2 q2
  ·cases(show RdX H1 B v (.bool ai)from r1);refine⟨ai,rfl,?_⟩;rw[if_neg Al];exact k _ _ H1 n1 R1 k1 (wd (.bl ai)) q1
  ·exact q1.elim⟩
theorem xg(h:DE X a ta wa)(h2:DE X (.BoolOp .Or (b::rest) pos) tb wb):DE X (.BoolOp .Or (a::b::rest) pos) (pT ta tb) (ec wa wb):=⟨Sm h.pe h2.pe,λC H B σ δ n Q Q' R q k=>
 h.sd C H B σ δ n _ _ R q λv x H1 n1 R1 k1 r1 q1=>by
  unfold iS at q1
  split at q1
  ·cases(show RdX H1 B v (.bool ah)from r1);refine⟨ah,rfl,?_⟩;rw[if_pos rfl];exact k _ _ H1 n1 R1 k1 (wd (.bl ah)) q1
  ·cases(show RdX H1 B v (.bool ai)from r1);refine⟨ai,rfl,?_⟩;rw[if_neg Al];exact h2.sd C H1 B σ δ n1 _ _ R1 q1 λv x H2 n2 R2 k2 r2 q2=>k v x H2 n2 R2 (k1.trans k2) r2 q2
  ·exact q1.elim⟩
theorem NP(h:DE X a ta wa):DE X (.UnaryOp .Not a pos) (IV ta) (cy wa):=⟨Ri h.pe,λC H B σ δ n Q Q' R q k=>
 h.sd C H B σ δ n _ _ R q λv x H1 n1 R1 k1 r1 q1=>by
  split at q1
  ·rename_i b;cases(show RdX H1 B v (.bool b)from r1);exact⟨b,rfl,k _ _ H1 n1 R1 k1 (wd (.bl _)) q1⟩
  ·exact q1.elim⟩
def eQ(u:cI)(v w:DT):DT:=λδ n Q=>u δ n λb n1=>if b=ah then v δ n1 Q else w δ n1 Q
theorem YQ(h:DC X c tA cA)(h1:DE X a ta wa)(h2:DE X b tb wb):DE X (.IfExp c a b pos) (JB tA ta tb) (eQ cA wa wb):=⟨O8 h.pt h1.pe h2.pe,λC H B σ δ n Q Q' R q k=>
 h.sd C H B σ δ n _ _ R q λb H1 n1 R1 k1 q1=>by
  cases b with
  |true=>
   rw[if_pos rfl]at q1 ⊢;exact h1.sd C H1 B σ δ n1 _ _ R1 q1 λv x H2 n2 R2 k2 r2 q2=>k v x H2 n2 R2 (k1.trans k2) r2 q2
  |false=>
   rw[if_neg Al]at q1 ⊢;exact h2.sd C H1 B σ δ n1 _ _ R1 q1 λv x H2 n2 R2 k2 r2 q2=>k v x H2 n2 R2 (k1.trans k2) r2 q2⟩
variable{es:List Expr}{tR:TA}{wR:fC}
def ak:fC:=λ_ n Q=>Q [] n
def ao(w:DT)(r:fC):fC:=λδ n Q=>w δ n λx n1=>r δ n1 λxs n2=>Q (x::xs) n2
theorem xq:DA X [] bF ak:=⟨dS,λC H B σ δ n Q Q' R q k=>k [] [] H n R (Kp.refl _ _) .nil q⟩
theorem m3(h:DE X e te we)(hr:DA X es tR wR)(hs:A8 (e::es) X.env=(ai,eval e X.env)::A8 es X.env:=by rfl):DA X (e::es) (cK te tR) (ao we wR):=⟨cH h.pe hr.pa hs,λC H B σ δ n Q Q' R q k=>
 h.sd C H B σ δ n _ _ R q λv x H1 n1 R1 k1 r1 q1=>hr.sd C H1 B σ δ n1 _ _ R1 q1 λvs xs H2 n2 R2 k2 r2 q2=>k (v::vs) (x::xs) H2 n2 R2 (k1.trans k2) (.cons (r1.kp k2 R1.bt) r2) q2⟩
def dO:List Wv->Option (List Aa)
 |[]=>ae []
 |.d x::r=>(dO r).map (x::·)
 |_::_=>af
theorem ARel.plain:∀{vs:List V}{xs:List Wv}{ds:List Aa},ARel H B t vs xs->dO xs=ae ds->RdXs H B vs ds
 |_,_,_,.nil,h=>by
  cases h;exact .nil
 |_,_,ds,.cons (x:=x) (xs:=xs) a b,h=>by
  cases x with
  |d x=>
   have h':(dO xs).map (x::·)=ae ds:=h;cases e:dO xs with
   |none=>rw[e]at h';cases h'
   |some es=>
    rw[e]at h';cases h';exact .cons a (ARel.plain b e)
  |tp=>cases h
  |dk _=>cases h
  |ln _=>cases h
  |ob _=>cases h
theorem RdXs.fresh(h:RdXs H B vs ds)(hp:H p=af):RdXs (upd H p o) (λb=>B b\/b=p) vs ds:=
 h.move λb o' e n=>⟨by rw[bc (b5 e hp)];exact e,λz=>z.elim n λq=>b5 e hp q⟩
def aB(w:fC):DT:=λδ n Q=>w δ n λxs n1=>match dO xs with
 |some ds=>ds.length<=1000/\Q (.d (.tuple ds)) n1
 |none=>False
theorem RH{x1}(h:DA X es tR wR):DE X (.Tuple es x1 pos) (pH tR) (aB wR):=⟨DB h.pa,λC H B σ δ n Q Q' R q k=>
 h.sd C H B σ δ n _ _ R q λvs xs H1 n1 R1 k1 r1 q1=>by
  split at q1
  ·rename_i ds e;have r:=r1.plain e;have hl:vs.length<=A6:=by rw[r.len];exact oR q1.1
   refine⟨hl,λp hp=>k _ _ _ n1 (R1.new hp) (k1.trans (Kp.new hp)) (wd (show RdX _ B (.ref p) (.tuple ds)from ?_)) q1.2⟩;exact .tup bL (R1.nb hp) hl ((r.fresh hp).less λb z=>.inl z)
  ·exact q1.elim⟩
def aR(w:fC):fK:=λδ n Q=>w δ n λxs n1=>match dO xs with
 |some ds=>ds.length<=1000/\Q ds n1
 |none=>False
theorem Ye(h:DA X es tR wR):DF X (.List es pos) (j6 tR) (aR wR):=⟨lL h.pa,λC H B σ δ n Q Q' R q k=>
 h.sd C H B σ δ n _ _ R q λvs xs H1 n1 R1 k1 r1 q1=>by
  split at q1
  ·rename_i ds e;have r:=r1.plain e;have hl:vs.length<=A6:=by rw[r.len];exact oR q1.1
   have hn:∀p,H1 p=af->H p=af:=λp hp=>by
    cases q:H p with
    |none=>rfl
    |some o=>
     by_cases z:p=C.t
     ·subst z;obtain⟨_,_,h,_⟩:=R1.tp.ob;rw[h]at hp;cases hp
     ·rw[k1 p o q z]at hp;cases hp
   exact⟨hl,λp hp=>k p vs ds _ n1 (R1.new hp) (k1.trans (Kp.new hp)) (hn p hp) bL hl (r.fresh hp) q1.2⟩
  ·exact q1.elim⟩
def aV(w:fK):DT:=λδ n Q=>w δ n λds n1=>Q (.d (.list ds)) n1
theorem VN(h:jO t w):fZ t (aV w):=λC H B σ δ n Q Q' R q k=>
 h C H B σ δ n _ _ R q λa xs ds H' n' R' k' h0 h1 h2 h3 q'=>k _ _ H' n' R' k' (wd (show RdX H' B (.ref a) (.list ds)from .lst h1 (R.nb h0) h2 (h3.less λb z=>.inl z))) q'
theorem DF.d(h:DF X e t w):DE X e t (aV w):=⟨h.pe,VN h.sd⟩
theorem Rel.was(R1:Rel C H1 B σ δ n1)(k1:Kp C.t H H1)(hp:H1 p=af):H p=af:=by
 cases q:H p with
 |none=>rfl
 |some o=>
  by_cases z:p=C.t
  ·subst z;obtain⟨_,_,h,_⟩:=R1.tp.ob;rw[h]at hp;cases hp
  ·rw[k1 p o q z]at hp;cases hp
abbrev bx:=List Wv->Int->DQ->Prop
def eM(S:bx):Sp:=λvs H Q _=>∃(t:Addr)(l:TL)(ns:List Int)(B:Addr->Prop)(ws:List Wv)(n:Int)(Q0:DQ),Tp H t l ns n/\B t/\(∀b,B b->H b≠af)/\ARel H B t vs ws/\S ws n Q0 /\
 ∀w n',Q0 w n'->∀v H',Tp H' t l ns n'->Kp t H H'->WRel H' B t v w->Q v H'
section
variable{X:Cx}{e:Expr}{es:List Expr}{pos p:Pos}{tR:TA}{wR:fC}
def az(S:bx)(w:fC):DT:=λδ n Q=>w δ n λxs n1=>S xs n1 Q
theorem L8(h:j8 t w):fZ (iC (eM S) [] E0 t) (az S w):=λC H B σ δ n Q Q' R q k=>
 h C H B σ δ n _ _ R q λvs xs H1 n1 R1 k1 r1 q1=>by
  refine⟨C.t,C.l,C.ns,B,xs,n1,Q,R1.tp,R1.bt,R1.ba,by rw[A5];exact r1,q1,λw n' q2 v H' T' k' r'=>?_⟩;exact k v w H' n' (R1.step T' k') (k1.trans k') r' q2
theorem SR(F:FnOk X.prog X.w X.K X.mg X.base dy k f fd ps (eM S))(hr:Room k X.A)(hg:Gl X x)(hm:X.mg x=ae (.ref f))(hk:C2 X.K (.ref f)=ah)(hb:Binds X.K fd ps [])
  (ha:DA X (e::es) tR wR) (hdb:(x==("__debug__":Str))=ai:=by decide) (he:A8 (e::es) X.env=(ai,eval e X.env)::A8 es X.env:=by rfl) (hpl:(Df pos (A8 es X.env)).any (·.1)=ai:=by rfl):
  DE X (.Call (.Name x p) (e::es) [] pos) (iC (eM S) [] E0 tR) (az S wR):=⟨rE F hr hg hm hk hb .nil sC ha.pa hdb he hpl,L8 ha.sd⟩
def dw(r:List V->Hp->VK->Prop)(g:List Wv->Int->DQ->Prop):Prop:=∀(C:Ctx)(H:Hp)(B:Addr->Prop)(σ:St)(δ:Sl)(n:Int)(vs:List V)(xs:List Wv)(Q:DQ)(Q':VK),Rel C H B σ δ n->ARel H B C.t vs xs->g xs n Q->
 (∀v x H' n',Rel C H' B σ δ n'->Kp C.t H H'->WRel H' B C.t v x->Q x n'->Q' v H')->r vs H Q'
def wB(g:List Wv->Int->DQ->Prop)(w:fC):DT:=λδ n Q=>w δ n λxs n1=>g xs n1 Q
theorem IU(hr:dw r g)(h:j8 t w):fZ (i6 r t) (wB g w):=λC H B σ δ n Q Q' R q k=>
 h C H B σ δ n _ _ R q λvs xs H1 n1 R1 k1 r1 q1=>hr C H1 B σ δ n1 vs xs Q Q' R1 r1 q1 λv x H2 n2 R2 k2 r2 q2=>k v x H2 n2 R2 (k1.trans k2) r2 q2
theorem ue{id:String}(hc:CallR X (.builtin id) r)(hr:dw r g)(hg:Gl X x)(hm:X.mg x=af)(hv:Cf x=ae (.builtin id))(ha:DA X (e::es) tR wR)(hn:x≠"__name__":=by decide)(hdb:(x==("__debug__":Str))=ai:=by decide)
  (he:A8 (e::es) X.env=(ai,eval e X.env)::A8 es X.env:=by rfl) (hpl:(Df pos (A8 es X.env)).any (·.1)=ai:=by rfl):DE X (.Call (.Name x p) (e::es) [] pos) (i6 r tR) (wB g wR):=⟨nc hc hg hm hv ha.pa hn hdb he hpl,IU hr ha.sd⟩
theorem nK(hc:CallR X (.type T) r)(hr:dw r g)(hg:Gl X x)(hm:X.mg x=af)(hv:Cf x=ae (.type T))(ha:DA X (e::es) tR wR)(hn:x≠"__name__":=by decide)(hdb:(x==("__debug__":Str))=ai:=by decide)
  (he:A8 (e::es) X.env=(ai,eval e X.env)::A8 es X.env:=by rfl) (hpl:(Df pos (A8 es X.env)).any (·.1)=ai:=by rfl):DE X (.Call (.Name x p) (e::es) [] pos) (i6 r tR) (wB g wR):=⟨AJ hc hg hm hv ha.pa hn hdb he hpl,IU hr ha.sd⟩
end
structure DEnds where
 nx:Sl->Int->Prop
 rt:DQ
 bk:Sl->Int->Prop:=λ_ _=>False
 ct:Sl->Int->Prop:=λ_ _=>False
 rn:List Aa->Int->Prop:=λ_ _=>False
abbrev aL:=Sl->Int->DEnds->Prop
structure EndsOk(C:Ctx)(K:DEnds)(D:Ends):Prop where
 nx:∀H B σ δ n,Rel C H B σ δ n->K.nx δ n->D.nx σ H
 rt:∀H B σ δ n v w,Rel C H B σ δ n->WRel H B C.t v w->K.rt w n->D.rt v H
 bk:∀H B σ δ n,Rel C H B σ δ n->K.bk δ n->D.bk σ H
 ct:∀H B σ δ n,Rel C H B σ δ n->K.ct δ n->D.ct σ H
 rn:∀H B σ δ n a xs ds,Rel C H B σ δ n->C.H0 a=af->H a=ae (.lst xs)->xs.length<=A6->RdXs H (λb=>B b\/b=a) xs ds->K.rn ds n->D.rt (.ref a) H
def iq(T:TS)(W:aL):Prop:=∀(C:Ctx)(H:Hp)(B:Addr->Prop)(σ:St)(δ:Sl)(n:Int)(K:DEnds)(D:Ends),Rel C H B σ δ n->W δ n K->EndsOk C K D->T D σ H
structure DS(X:Cx)(st:Stmt)(T:TS)(W:aL):Prop where
 ps:PS X st T
 sd:iq T W
structure DSs(X:Cx)(st:List Stmt)(T:TS)(W:aL):Prop where
 ps:PSs X st T
 sd:iq T W
section
variable{X:Cx}{st:Stmt}{rest:List Stmt}{T U:TS}{W V':aL}{e:Expr}{te:TE}{we:DT}{pos:Pos}
def aG:aL:=λδ n K=>K.nx δ n
def aq(W V:aL):aL:=λδ n K=>W δ n {K with nx:=λδ n=>V δ n K}
theorem XG:DSs X [] zP aG:=⟨oD,λC H B σ δ n K D R h E=>E.nx H B σ δ n R h⟩
theorem Y9(h:DS X st T W)(h2:DSs X rest U V'):DSs X (st::rest) (gJ T U) (aq W V'):=⟨gh h.ps h2.ps,λC H B σ δ n K D R q E=>
 h.sd C H B σ δ n _ _ R q ⟨λH B σ δ n R q=>h2.sd C H B σ δ n K D R q E,E.rt,E.bk,E.ct,E.rn⟩⟩
theorem Zv(h:DS X st T W):DSs X [st] T W:=⟨ib h.ps,h.sd⟩
def aw(w:DT):aL:=λδ n K=>w δ n K.rt
theorem Xg(h:DE X e te we):DS X (.Return (ae e) pos) (mF te) (aw we):=⟨nL h.pe,λC H B σ δ n K D R q E=>
 h.sd C H B σ δ n _ _ R q λv x H' n' R' _ r' q'=>E.rt H' B σ δ n' v x R' r' q'⟩
def aX(c:cI)(W V:aL):aL:=λδ n K=>c δ n λb n1=>if b=ah then W δ n1 K else V δ n1 K
theorem v7{a b:List Stmt}{tc:TT}(hc:DC X c tc cc)(ha:DSs X a T W)(hb:DSs X b U V'):DS X (.If c a b pos) (lE tc T U) (aX cc W V'):=⟨lh hc.pt ha.ps hb.ps,λC H B σ δ n K D R q E=>
 hc.sd C H B σ δ n _ _ R q λb H1 n1 R1 _ q1=>by
  cases b with
  |true=>
   rw[if_pos rfl]at q1 ⊢;exact ha.sd C H1 B σ δ n1 K D R1 q1 E
  |false=>
   rw[if_neg Al]at q1 ⊢;exact hb.sd C H1 B σ δ n1 K D R1 q1 E⟩
def aT(i:Nat)(w:DT):aL:=λδ n K=>w δ n λx n1=>match x with
 |.d d=>K.nx (δ.set i (↑d)) n1
 |.tp=>K.nx (δ.set i (ae (.w .tp))) n1
 |.dk _=>False
 |.ln _=>False
 |.ob o=>K.nx (δ.set i (ae (.w (.ob o)))) n1
theorem YG(hN:X.N.Nodup)(hi:X.N[i]?=ae x)(hx:jz X.env.scope x)(he:DE X e te we)(hs:Fw e (ae (.Name x pos')) pos.line X.env=pure ai:=by rfl)(hf:X.fn x=ah\/X.env.scope.names.lookup x=ae .local:=by first|exact .inl rfl|exact .inr rfl|assumption):
  DS X (.Assign [.Name x pos'] e pos) (c9 te (fB i)) (aT i we):=⟨iN hN hi hx he.pe hs hf,λC H B σ δ n K D R q E=>
 he.sd C H B σ δ n _ _ R q λv x H1 n1 R1 _ r1 q1=>by
  cases x with
  |d d=>exact E.nx _ _ _ _ _ (R1.set r1 rfl) q1
  |tp=>exact E.nx _ _ _ _ _ (R1.set r1 rfl) q1
  |dk _=>exact q1.elim
  |ln _=>exact q1.elim
  |ob o=>exact E.nx _ _ _ _ _ (R1.set r1 rfl) q1⟩
def bD(i:Nat)(w:fK):aL:=λδ n K=>w δ n λds n1=>K.nx (δ.set i (ae (.own ds))) n1
theorem Rel.h0{a:Addr}(R:Rel C H B σ δ n)(h:H a=af):C.H0 a=af:=R.was R.kp h
theorem RL(hN:X.N.Nodup)(hi:X.N[i]?=ae x)(hx:jz X.env.scope x)(he:DF X e te w)(hs:Fw e (ae (.Name x pos')) pos.line X.env=pure ai:=by rfl)(hf:X.fn x=ah\/X.env.scope.names.lookup x=ae .local:=by first|exact .inl rfl|exact .inr rfl|assumption):
  DS X (.Assign [.Name x pos'] e pos) (c9 te (fB i)) (bD i w):=⟨iN hN hi hx he.pe hs hf,λC H B σ δ n K D R q E=>
 he.sd C H B σ δ n _ _ R q λa xs ds H1 n1 R1 k1 h0 h1 h2 h3 q1=>by
  refine E.nx _ _ _ _ _ (R.own R1 k1 h0 (by rw[h1];exact λz=>nomatch z) rfl ?_) q1;exact⟨a,xs,rfl,h1,.inr rfl,R.h0 h0,h2,h3⟩⟩
def bW(i:Nat)(W:aL):aL:=λδ n K=>match δ[i]? with
 |some (ae (.own ds))=>W (δ.set i (↑(.list ds))) n K
 |some (ae (.odk m))=>W (δ.set i (ae (.w (.ob (.k m))))) n K
 |_=>W δ n K
theorem RT(i)(h:DSs X sts T W):DSs X sts T (bW i W):=⟨h.ps,λC H B σ δ n K D R q E=>by
 unfold bW at q
 split at q
 ·rename_i ds e;obtain⟨B',R'⟩:=R.frz e;exact h.sd C H B' σ _ n K D R' q E
 ·rename_i m e;obtain⟨B',R'⟩:=R.frzK e;exact h.sd C H B' σ _ n K D R' q E
 ·exact h.sd C H B σ δ n K D R q E⟩
def br(i:Nat)(w:DT):aL:=λδ n K=>match δ[i]? with
 |some (ae (.own ds))=>w δ n λx n1=>match x with
  |.d d=>ds.length < 1000000/\K.nx (δ.set i (ae (.own (ds++[d])))) n1
  |_=>False
 |_=>False
theorem Kk(h:n < 1000000):n < A6:=Nat.lt_trans h ∎
theorem ZM{xp ap cp:Pos}(hN:X.N[i]?=ae x)(he:DE X e te we)(hv:gT X.env.scope x:=by first|exact Dr rfl|exact Cw (Dr rfl)|exact Cw (Cw rfl))(hd:(x==("__debug__":Str))=ai:=by decide)
  (hcd:(x==("__classdict__":Str))=ai:=by decide)
  (hbase:E6 (.Name x xp) "append" X.env (eval (.Name x xp) X.env)=eval (.Name x xp) X.env:=by rfl)
  (hfew:((Df cp (A8 [e] X.env)).all (λx=>!x.1)&&(backToKw cp (F7 [] X.env)).all (λx=>x.1.isSome)
   && decide ([e].length+([]:List Fb).length+(if ([]:List Fb).isEmpty then 0 else 1) < 30))=ah:=by rfl)
  (hline:(ap.endLine==cp.line)=ah:=by rfl) (hs:A8 [e] X.env=[(ai,eval e X.env)]:=by rfl) (hplain:(Df cp (A8 [] X.env)).any (·.1)=ai:=by rfl)
  (hsw:Fw (.Call (.Attribute (.Name x xp) "append" ap) [e] [] cp) af pos.line X.env=pure ai:=by rfl):
  DS X (.Expr (.Call (.Attribute (.Name x xp) "append" ap) [e] [] cp) pos) (ng (jB X.K "list" yp (b9 i) (cK te bF))) (br i we):=
 ⟨ka (ml F9 PySem.F.slot_list_append PySem.F.type_list_append rZ (jw hN hv hd hcd) (cH he.pe dS hs) hbase hfew hline hs hplain) hsw,λC H B σ δ n K D R q E=>by
  unfold br at q
  split at q
  ·rename_i ds ei;obtain⟨v,hv,a,xs,rfl,e2,e3,e4,e5,e6⟩:=R.sl i _ ei;refine⟨_,hv,.inl ⟨rfl,_,SqL.of e2⟩,he.sd C H B σ δ n _ _ R q λu y H1 n1 R1 k1 r1 q1=>?_⟩;cases y with
   |d d=>
    have hat:a≠C.t:=λz=>R.t0 (z▸e4);have e2':=k1 _ _ e2 hat;refine⟨a,xs,u,rfl,rfl,e2',Kk (by rw[e6.len];exact q1.1),?_⟩;refine E.nx _ _ _ _ _ (R1.mutOwn ei rfl hv e3 e4 ?_ rfl) q1.2;refine⟨a,xs++[u],rfl,bL,e3,e4,?_,?_⟩
    ·rw[Ah,e6.len];exact Kk q1.1
    ·refine RdXs.keep (λb o e n=>?_) ((e6.kp k1 R.bt).append (.cons r1 .nil));rw[bc λ(z:b=a)=>n (z▸e3)];exact e
   |tp=>exact q1.elim
   |dk _=>exact q1.elim
   |ln _=>exact q1.elim
   |ob _=>exact q1.elim
  ·exact q.elim⟩
end
def cz(N:List Str)(ws:List Wv):Sl:=ws.map (λx=>ae (.w x))++C0 (N.length-ws.length) af
def bS(S:bx)(W:aL)(N:List Str):Prop:=∀ws n Q,S ws n Q->W (cz N ws) n {nx:=λ_ n=>Q (.d .none) n,rt:=Q}
theorem ARel.get:∀{vs:List V}{xs:List Wv}{i:Nat}{x:Wv},ARel H B t vs xs->xs[i]?=ae x->∃v,vs[i]?=ae v/\WRel H B t v x
 |_,_,_,_,.nil,e=>by simp at e
 |_,_,0,_,.cons h _,e=>by
  simp at e;subst e;exact⟨_,rfl,h⟩
 |_,_,i+1,x,.cons _ r,e=>by
  obtain⟨v,h1,h2⟩:=ARel.get (i:=i) (x:=x) r (by simpa using e);exact⟨v,by simpa using h1,h2⟩
theorem JU(T:Tp H t l ns n)(bt:B t)(ba:∀b,B b->H b≠af)(r:ARel H B t vs ws):Rel ⟨t,l,ns,H,B,λ_=>af⟩ H B (L2.start N vs) (cz N ws) n where
 tp:=T
 kp:=Kp.refl _ _
 t0:=by
  obtain⟨_,_,h,_⟩:=T.ob;show H t≠af;rw[h];exact λz=>nomatch z
 l0:=by
  show H l.s≠af;rw[T.ls];exact λz=>nomatch z
 g0:=λe=>by
  show H l.g≠af;rw[T.ag e];exact λz=>nomatch z
 fz:=λb o e=>nomatch e
 bt:=bt
 b0:=λ_ z=>z
 ba:=ba
 a0:=ba
 sl:=λi x e=>by
  have hl:=r.len;unfold cz at e;rw[List.getElem?_append]at e
  split at e
  ·rename_i hi;rw[Ab]at hi;rw[Bh]at e;cases q:ws[i]? with
   |none=>rw[q]at e;cases e
   |some y=>
    rw[q]at e;cases e;obtain⟨v,h1,h2⟩:=r.get q;refine⟨v,?_,h2,λz=>?_⟩
    ·unfold L2.start;rw[G7 (by rw[Ab,hl];exact hi),Bh,h1];rfl
    ·cases y with
     |d _=>cases z
     |tp=>cases z
     |dk _=>
      obtain⟨a,l',f1,f2,_⟩:=h2;exact⟨a,f1,by show H a≠af;rw[f2];exact λz=>nomatch z⟩
     |ln _=>
      obtain⟨a,l',f1,f2,_⟩:=h2;exact⟨a,f1,by show H a≠af;rw[f2];exact λz=>nomatch z⟩
     |ob _=>cases z
  ·rw[D9]at e
   split at e
   ·cases e
   ·cases e
 ow:=λi j x y v e1 e2 o1 o2 _ _=>by
  unfold cz at e1;rw[List.getElem?_append]at e1
  split at e1
  ·rw[Bh]at e1;cases q:ws[i]? with
   |none=>rw[q]at e1;cases e1
   |some y=>
    rw[q]at e1;cases e1;cases o1
  ·rw[D9]at e1
   split at e1
   ·cases e1
   ·cases e1
 len:=by
  unfold L2.start cz;rw[Ah,Ah,Ab,Ab,Gp,Gp,r.len]
section
variable{P:Bs}{w:B5}{K:Ag}{mg:Str->Option Aj}{base:Heap}
theorem Fun.okD(F:Fun K x qual st f fd)(Sc:FnScope N ps (dh st))(len:∀ws n Q,S ws n Q->ws.length=ps.length)
  (hbody:∀(cdv:Aj)(A:Cj)(outer:List Env)(s:Ao)(H:Hp)(E:XK),Room k (A.deeper (D2 qual (dh st) s.heap.objs.size f cdv))->
   ∃T W,DSs (dM dy P w K mg base N qual (dh st) f cdv A outer s H E).nox (gB st) T W/\∀ws n Q,S ws n Q->W (cz N ws) n {nx:=λ_ n=>Q (.d .none) n,rt:=Q}):FnOk P w K mg base dy (k+1) f fd ps (eM S):=by
 refine F.ok Sc (λvs H Q E h=>?_) (λcdv A outer s H vs Q E hr h=>?_)
 ·obtain⟨t,l,ns,B,ws,n,Q0,_,_,_,r,q,_⟩:=h;rw[r.len];exact len ws n Q0 q
 ·obtain⟨t,l,ns,B,ws,n,Q0,T,bt,ba,r,q,kk⟩:=h;obtain⟨T',W,d,hw⟩:=hbody cdv A outer s H E hr;refine⟨T',d.ps,d.sd ⟨t,l,ns,H,B,λ_=>af⟩ H B _ _ n _ _ (JU T bt ba r) (hw ws n Q0 q) ⟨?_,?_,?_,?_,λ_ _ _ _ _ _ _ _ _ _ _ _ _ z=>z.elim⟩⟩
  ·exact λH' B' σ δ n' R' q'=>kk _ _ q' .non H' R'.tp R'.kp (show RdX H' B .non .none from .non)
  ·exact λH' B' σ δ n' v x R' r' q'=>kk _ _ q' v H' R'.tp R'.kp (r'.less R'.b0)
  ·exact λ_ _ _ _ _ _ z=>z.elim
  ·exact λ_ _ _ _ _ _ z=>z.elim
end
section
variable{X:Cx}{a b c e:Expr}{ta tb tc te:TE}{wa wb wc we:DT}{pos p:Pos}
def gI(Cd:Int->Int->Prop)(f:Int->Int->Aa):Wv->Wv->Int->DQ->Prop:=λx y n Q=>match x,y with
 |.d (.int i),.d (.int j)=>Cd i j/\Q (.d (f i j)) n
 |_,_=>False
def dN(f:Int->Int->Aa):Wv->Wv->Int->DQ->Prop:=λx y n Q=>match x,y with
 |.d (.int i),.d (.int j)=>Q (.d (f i j)) n
 |_,_=>False
theorem Ko(h:∀i j H B,RdX H B (g i j) (f i j)):bC (gg g) (dN f):=λC H B σ δ n x y p q Q Q' R rx ry h1 k=>by
 unfold dN at h1
 split at h1
 ·rename_i i j;cases(show RdX H B x (.int i)from rx);cases(show RdX H B y (.int j)from ry);exact⟨i,j,rfl,rfl,k _ _ H n R (Kp.refl _ _) (wd (h i j H B)) h1⟩
 ·exact h1.elim
theorem Xn(ha:DE X a ta wa)(hb:DE X b tb wb):DE X (.BinOp a .Sub b pos) (d3 (gg λi j=>.int (i-j)) ta tb) (w2 wa wb (dN λi j=>.int (i-j))):=i8 NJ (Ko λ_ _ _ _=>.int _) ha hb
def cY(w:DT):DT:=λδ n Q=>w δ n λx n1=>match x with
 |.d (.int i)=>Q (.d (.int (-i))) n1
 |_=>False
theorem Pe(ha:DE X a ta wa):DE X (.UnaryOp .USub a pos) (Kn (rU λi=>.int (-i)) ta) (cY wa):=⟨tu uf ha.pe,λC H B σ δ n Q Q' R q k=>ha.sd C H B σ δ n _ _ R q λv x H1 n1 R1 k1 r1 q1=>by
 split at q1
 ·rename_i i;cases(show RdX H1 B v (.int i)from r1);exact⟨i,rfl,k _ _ H1 n1 R1 k1 (wd (.int _)) q1⟩
 ·exact q1.elim⟩
def de:Wv->Wv->Int->DQ->Prop:=λx y n Q=>match x,y with
 |.d (.int i),.d (.int j)=>Q (.d (.int (i+j))) n
 |.d (.str i),.d (.str j)=>i.length+j.length<=A6/\Q (.d (.str (i++j))) n
 |.d (.tuple i),.d (.tuple j)=>(i≠[]\/j≠[])/\i.length+j.length<=A6/\Q (.d (.tuple (i++j))) n
 |.d (.list i),.d (.list j)=>i.length+j.length<=A6/\Q (.d (.list (i++j))) n
 |_,_=>False
def mJ(K:Ag):R2:=λx y H Q=>(gg λi j=>.int (i+j)) x y H Q\/(∃i j,x=.str i/\y=.str j/\i.length+j.length<=A6/\Q (.str (i++j)) H)\/K4 K x y H Q\/ID K x y H Q\/iY x y H Q
theorem op_addA:OpR X (Fd .Add) (mJ X.K):=
 op_add.or (op_add_str.or (op_catA.or (op_catT.or zW)))
theorem L1(i j:Str):(i++j).length=i.length+j.length:=Array.size_append
theorem BZ:bC (mJ K) de:=λC H B σ δ n x y p q Q Q' R rx ry h1 k=>by
 unfold de at h1
 split at h1
 ·rename_i i j;cases(show RdX H B x (.int i)from rx);cases(show RdX H B y (.int j)from ry);exact .inl ⟨i,j,rfl,rfl,k _ _ H n R (Kp.refl _ _) (wd (.int _)) h1⟩
 ·rename_i i j;cases(show RdX H B x (.str i)from rx);cases(show RdX H B y (.str j)from ry);exact .inr (.inl ⟨i,j,rfl,rfl,h1.1,k _ _ H n R (Kp.refl _ _) (wd (show RdX H B _ (.str (i++j))from .str _ (by rw[L1];exact h1.1))) h1.2⟩)
 ·rename_i i j;cases(show RdX H B x (.tuple i)from rx)with
  |@tup ax xs _ e1 e2 e3 e4=>
   cases(show RdX H B y (.tuple j)from ry)with
   |@tup ay ys _ f1 f2 f3 f4=>
    obtain⟨ne,hl,q⟩:=h1;have hl':xs.length+ys.length<=A6:=by rw[e4.len,f4.len];exact hl
    have new:∀pn,H pn=af->Q' (.ref pn) (upd H pn (.tup (xs++ys))):=λpn hp=>by
     refine k _ _ _ n (R.new hp) (Kp.new hp) (wd (show RdX _ B _ (.tuple (i++j))from .tup bL (R.nb hp) (by rw[Ah];exact hl') ?_)) q;exact((e4.append f4).fresh hp).less λb z=>.inl z
    by_cases hy:ys=[]
    ·have hx:xs≠[]:=λz=>by
      subst hy z;cases e4;cases f4;exact ne.elim (λq=>q rfl) λq=>q rfl
     refine .inr (.inr (.inr (.inl ⟨ax,ay,xs,ys,rfl,rfl,SqT.of e1,SqT.of f1,hx,hl',λ_=>?_,λ_=>new⟩)));subst hy;cases f4;rw[A5]at q;exact k _ _ H n R (Kp.refl _ _) (wd (show RdX H B _ (.tuple i)from .tup e1 e2 e3 e4)) q
    ·refine .inr (.inr (.inl ⟨ax,ay,xs,ys,rfl,rfl,SqT.of e1,SqT.of f1,hy,hl',λz=>?_,λ_=>new⟩));subst z;cases e4;exact k _ _ H n R (Kp.refl _ _) (wd (show RdX H B _ (.tuple j)from .tup f1 f2 f3 f4)) q
 ·rename_i i j;cases(show RdX H B x (.list i)from rx)with
  |@lst ax xs _ e1 e2 e3 e4=>
   cases(show RdX H B y (.list j)from ry)with
   |@lst ay ys _ f1 f2 f3 f4=>
    obtain⟨hl,q⟩:=h1;have hl':xs.length+ys.length<=A6:=by rw[e4.len,f4.len];exact hl
    refine .inr (.inr (.inr (.inr ⟨ax,ay,xs,ys,rfl,rfl,e1,f1,hl',λpn hp=>?_⟩)));refine k _ _ _ n (R.new hp) (Kp.new hp) (wd (show RdX _ B _ (.list (i++j))from .lst bL (R.nb hp) (by rw[Ah];exact hl') ?_)) q;exact((e4.append f4).fresh hp).less λb z=>.inl z
 ·exact h1.elim
theorem Ph(ha:DE X a ta wa)(hb:DE X b tb wb):DE X (.BinOp a .Add b pos) (d3 (mJ X.K) ta tb) (w2 wa wb de):=i8 op_addA BZ ha hb
def bX(f:Int->Int->Bool)(h:List Nat->List Nat->Bool):Wv->Wv->Int->DQ->Prop:=λx y n Q=>match x,y with
 |.d (.int i),.d (.int j)=>Q (.d (.bool (f i j))) n
 |.d (.str i),.d (.str j)=>Q (.d (.bool (h i.cps.toList j.cps.toList))) n
 |_,_=>False
theorem qV:bC (λx y H Q=>(gg λi j=>.bl (f i j)) x y H Q\/∃i j,x=.str i/\y=.str j/\Q (.bl (h i.cps.toList j.cps.toList)) H) (bX f h):=λC H B σ δ n x y p q Q Q' R rx ry h1 k=>by
 unfold bX at h1
 split at h1
 ·rename_i i j;cases(show RdX H B x (.int i)from rx);cases(show RdX H B y (.int j)from ry);exact .inl ⟨i,j,rfl,rfl,k _ _ H n R (Kp.refl _ _) (wd (.bl _)) h1⟩
 ·rename_i i j;cases(show RdX H B x (.str i)from rx);cases(show RdX H B y (.str j)from ry);exact .inr ⟨i,j,rfl,rfl,k _ _ H n R (Kp.refl _ _) (wd (.bl _)) h1⟩
 ·exact h1.elim
theorem Qr:OpR X (B4 .GtE) (λx y H Q=>∃i j,x=.str i/\y=.str j/\Q (.bl (!decide (i.cps.toList < j.cps.toList))) H):=by
 intro pins s σ H x y v u Q I rx ry h;obtain⟨i,j,rfl,rfl,q⟩:=h;obtain⟨t,rfl⟩:=rx;obtain⟨t',rfl⟩:=ry;exact P.ge_str (cS I q rfl)
abbrev eV:=bX (λi j=>decide (i < j)) (λi j=>decide (i < j))
abbrev dA:=bX (λi j=>decide (i<=j)) (λi j=>!decide (j < i))
abbrev k7:=bX (λi j=>decide (j < i)) (λi j=>decide (j < i))
abbrev ES:=bX (λi j=>decide (j<=i)) (λi j=>!decide (i < j))
def o3:R2:=λx y H Q=>(gg λi j=>.bl (decide (i < j))) x y H Q\/∃i j,x=.str i/\y=.str j/\Q (.bl (decide (i.cps.toList < j.cps.toList))) H
theorem JL:OpR X (B4 .Lt) o3:=op_lt.or Mi
def oj:R2:=λx y H Q=>(gg λi j=>.bl (decide (i<=j))) x y H Q\/∃i j,x=.str i/\y=.str j/\Q (.bl (!decide (j.cps.toList < i.cps.toList))) H
theorem pI:OpR X (B4 .LtE) oj:=op_le.or UN
def oZ:R2:=λx y H Q=>(gg λi j=>.bl (decide (j < i))) x y H Q\/∃i j,x=.str i/\y=.str j/\Q (.bl (decide (j.cps.toList < i.cps.toList))) H
theorem OT:OpR X (B4 .Gt) oZ:=op_gt.or OC
def qE:R2:=λx y H Q=>(gg λi j=>.bl (decide (j<=i))) x y H Q\/∃i j,x=.str i/\y=.str j/\Q (.bl (!decide (i.cps.toList < j.cps.toList))) H
theorem Nl:OpR X (B4 .GtE) qE:=op_ge.or Qr
theorem KA:bC o3 eV:=qV (f:=λi j=>decide (i < j)) (h:=λi j=>decide (i < j))
theorem qc:bC oj dA:=qV (f:=λi j=>decide (i<=j)) (h:=λi j=>!decide (j < i))
theorem PM:bC oZ k7:=qV (f:=λi j=>decide (j < i)) (h:=λi j=>decide (j < i))
theorem NR:bC qE ES:=qV (f:=λi j=>decide (j<=i)) (h:=λi j=>!decide (i < j))
def jH:Aa->Aa->Option Bool
 |.none,.none=>ae ah
 |.none,.int _=>ae ai
 |.int _,.none=>ae ai
 |.none,.bool _=>ae ai
 |.bool _,.none=>ae ai
 |.none,.str _=>ae ai
 |.str _,.none=>ae ai
 |.int i,.int j=>ae (decide (i=j))
 |.bool i,.bool j=>ae (decide (i=j))
 |.str i,.str j=>ae (decide (i=j))
 |.int _,.str _=>ae ai
 |.str _,.int _=>ae ai
 |.bool _,.str _=>ae ai
 |.str _,.bool _=>ae ai
 |.list _,.str _=>ae ai
 |.tuple _,.str _=>ae ai
 |.dict _,.str _=>ae ai
 |.list xs,.list []=>ae xs.isEmpty
 |_,_=>af
def ug:R2:=λx y H Q=>∃d h B,RdX H B x d/\y=.str h/\Q (.bl (b7 h d)) H
theorem zD(x y):decide (V.str x=V.str y)=decide (x=y):=by
 by_cases z:x=y
 ·rw[z,decide_eq_true rfl,decide_eq_true rfl]
 ·rw[decide_eq_false z,decide_eq_false λw=>z (V.str.inj w)]
theorem Ku(x y):decide (V.int x=V.int y)=decide (x=y):=by
 by_cases z:x=y
 ·rw[z,decide_eq_true rfl,decide_eq_true rfl]
 ·rw[decide_eq_false z,decide_eq_false λw=>z (V.int.inj w)]
theorem FL(x y):decide (V.bl x=V.bl y)=decide (x=y):=by
 by_cases z:x=y
 ·rw[z,decide_eq_true rfl,decide_eq_true rfl]
 ·rw[decide_eq_false z,decide_eq_false λw=>z (V.bl.inj w)]
theorem S1(hu:X.A.units < cLine):OpR X (B4 .Eq) ug:=by
 intro pins s σ H x y v u Q I rx ry h;obtain⟨d,hh,B,hd,rfl,q⟩:=h;cases hd with
 |non=>exact op_eq pins s σ H _ _ v u Q I rx ry ⟨rfl,q⟩
 |bl b=>exact op_eq pins s σ H _ _ v u Q I rx ry ⟨rfl,q⟩
 |int i=>exact op_eq pins s σ H _ _ v u Q I rx ry ⟨rfl,q⟩
 |str x hx=>
  refine op_eq pins s σ H _ _ v u Q I rx ry ⟨rfl,?_⟩;rw[zD];exact q
 |@lst a xs ds h1 h2 h3 h4=>
  cases(show v=B8 a from rx);obtain⟨t,rfl⟩:=(show ∃t,u=D7 hh t from ry);obtain⟨its,_,p,_⟩:=I.list (SqL.of (K:=X.K) h1);exact PySem.SeqAt.RcAt.list_str hh t p.isList hu _ _ _ _ ⟨.bl ai,H,I,rfl,q⟩
 |@tup a xs ds h1 h2 h3 h4=>
  cases(show v=B8 a from rx);obtain⟨t,rfl⟩:=(show ∃t,u=D7 hh t from ry);obtain⟨its,_,p,_⟩:=I.tuple (SqT.of (K:=X.K) h1);exact PySem.SeqAt.RcAt.tuple_str hh t (show s.heap.IsTuple a its.toArray from p) hu _ _ _ _ ⟨.bl ai,H,I,rfl,q⟩
def bA:Wv->Wv->Int->DQ->Prop:=λx y n Q=>match x,y with
 |.d a,.d b=>match jH a b with
  |some r=>Q (.d (.bool r)) n
  |none=>False
 |_,_=>False
theorem OJ(hu:X.A.units < cLine):OpR X (B4 .Eq) (λx y H Q=>tY x y H Q\/ug x y H Q\/t7 X.K x y H Q):=op_eq.or ((S1 hu).or (VZ hu))
theorem Tq:bC (λx y H Q=>tY x y H Q\/ug x y H Q\/t7 K x y H Q) bA:=λC H B σ δ n x y p q Q Q' R rx ry h1 k=>by
 unfold bA at h1
 split at h1
 ·rename_i da db;have rx:RdX H B x da:=rx;have ry:RdX H B y db:=ry;have fin:∀r:Bool,Q (.d (.bool r)) n->Q' (.bl r) H:=λr q=>k _ _ H n R (Kp.refl _ _) (wd (.bl r)) q
  split at h1
  ·rename_i r er;have h1:=fin r h1;cases rx with
   |non=>cases ry<;>first|(cases er;done)|(cases er;exact .inl ⟨rfl,h1⟩)
   |bl i=>cases ry<;>first|(cases er;done)|(cases er;exact .inl ⟨rfl,by first|exact h1|(rw[FL];exact h1)⟩)
   |int i=>cases ry<;>first|(cases er;done)|(cases er;exact .inl ⟨rfl,by first|exact h1|(rw[Ku];exact h1)⟩)
   |str i hi=>cases ry<;>first|(cases er;done)|(cases er;exact .inl ⟨rfl,by first|exact h1|(rw[zD];exact h1)⟩)
   |@lst ax xs ds e1 e2 e3 e4=>
    cases ry with
    |str j hj=>cases er;exact .inr (.inl ⟨_,j,B,.lst e1 e2 e3 e4,rfl,h1⟩)
    |@lst ay ys es f1 f2 f3 f4=>
     cases f4 with
     |nil=>
      have er:ae ds.isEmpty=ae r:=er;cases er;refine .inr (.inr ⟨ax,ay,xs,rfl,rfl,SqL.of e1,SqL.of f1,?_⟩);have:xs.isEmpty=ds.isEmpty:=by cases e4<;>rfl
      rw[this];exact h1
     |cons _ _=>cases er
    |_=>cases er
   |@tup ax xs ds e1 e2 e3 e4=>
    cases ry with
    |str j hj=>cases er;exact .inr (.inl ⟨_,j,B,.tup e1 e2 e3 e4,rfl,h1⟩)
    |_=>cases er
  ·exact h1.elim
 ·exact h1.elim
def nA(a b:Aa):Option Bool:=match a,b with
 |.list _,_=>af
 |.tuple _,_=>af
 |a,b=>(jH a b).map not
def iG:Wv->Wv->Int->DQ->Prop:=λx y n Q=>match x,y with
 |.d a,.d b=>match nA a b with
  |some r=>Q (.d (.bool r)) n
  |none=>False
 |_,_=>False
theorem Ib:bC IH iG:=λC H B σ δ n x y p q Q Q' R rx ry h1 k=>by
 unfold iG at h1
 split at h1
 ·rename_i da db;have rx:RdX H B x da:=rx;have ry:RdX H B y db:=ry;have fin:∀r:Bool,Q (.d (.bool r)) n->Q' (.bl r) H:=λr q=>k _ _ H n R (Kp.refl _ _) (wd (.bl r)) q
  split at h1
  ·rename_i r er;have h1:=fin r h1;cases rx with
   |non=>cases ry<;>first|(cases er;done)|(cases er;exact⟨rfl,h1⟩)
   |bl i=>cases ry<;>first|(cases er;done)|(cases er;exact⟨rfl,by first|exact h1|(rw[FL];exact h1)⟩)
   |int i=>cases ry<;>first|(cases er;done)|(cases er;exact⟨rfl,by first|exact h1|(rw[Ku];exact h1)⟩)
   |str i hi=>cases ry<;>first|(cases er;done)|(cases er;exact⟨rfl,by first|exact h1|(rw[zD];exact h1)⟩)
   |lst _ _ _ _=>cases er
   |tup _ _ _ _=>cases er
  ·exact h1.elim
 ·exact h1.elim
def dU:Aa->Bool
 |.none=>ah
 |_=>ai
def bz(neg:Bool):Wv->Wv->Int->DQ->Prop:=λx y n Q=>match x,y with
 |.d a,.d .none=>Q (.d (.bool (if neg then !dU a else dU a))) n
 |_,_=>False
theorem Kl(h:RdX H B v d):decide (v=.non)=dU d:=by cases h<;>rfl
theorem EN:bC (λx y H Q=>y=.non/\Q (.bl (decide (x=.non))) H) (bz ai):=λC H B σ δ n x y p q Q Q' R rx ry h1 k=>by
 unfold bz at h1
 split at h1
 ·rename_i da;cases(show RdX H B y .none from ry);exact⟨rfl,k _ _ H n R (Kp.refl _ _) (wd (show RdX H B _ (.bool (dU da))from by rw[Kl rx];exact .bl _)) h1⟩
 ·exact h1.elim
theorem Vd:bC (λx y H Q=>y=.non/\Q (.bl (!decide (x=.non))) H) (bz ah):=λC H B σ δ n x y p q Q Q' R rx ry h1 k=>by
 unfold bz at h1
 split at h1
 ·rename_i da;cases(show RdX H B y .none from ry);exact⟨rfl,k _ _ H n R (Kp.refl _ _) (wd (show RdX H B _ (.bool (!dU da))from by rw[Kl rx];exact .bl _)) h1⟩
 ·exact h1.elim
def jq:Aa->Bool
 |.none=>ah
 |.bool _=>ah
 |.int _=>ah
 |.str _=>ah
 |_=>ai
def yd:Aa->Aa->Bool
 |.none,.none=>ah
 |.bool a,.bool b=>a==b
 |.bool a,.int b=>(if a then 1 else 0)==b
 |.int a,.bool b=>a==(if b then 1 else 0)
 |.int a,.int b=>a==b
 |.str a,.str b=>a==b
 |_,_=>ai
def bG(x:Aa)(ds:List Aa):Bool:=ds.any λy=>yd y x
theorem oY(h:RdX H B v d)(f:jq d=ah):jK v=ah:=by cases h<;>first|rfl|cases f
theorem pM:∀{vs:List V}{ds:List Aa},RdXs H B vs ds->ds.all jq=ah->vs.all jK=ah
 |_,_,.nil,_=>rfl
 |_,_,.cons h r,f=>by
  rw[List.all_cons,Ak]at f ⊢;exact⟨oY h f.1,pM r f.2⟩
theorem VY{d e:Aa}(h:RdX H B v d)(h2:RdX H B u e):j1 v u=yd d e:=by cases h<;>cases h2<;>rfl
theorem qx(h:RdX H B v d):∀{vs:List V}{ds:List Aa},RdXs H B vs ds->sy v vs=bG d ds
 |_,_,.nil=>rfl
 |_,_,.cons h1 r=>by
  have:=qx h r;unfold sy bG at this ⊢;rw[Fk,Fk,this,VY h1 h]
def gn(neg:Bool):Wv->Wv->Int->DQ->Prop:=λx y n Q=>match x,y with
 |.d a,.d (.tuple ds)=>jq a=ah/\ds.all jq=ah/\Q (.d (.bool (if neg then !bG a ds else bG a ds))) n
 |.d a,.d (.list ds)=>jq a=ah/\ds.all jq=ah/\Q (.d (.bool (if neg then !bG a ds else bG a ds))) n
 |_,_=>False
theorem lQ:bC (kj K neg) (gn neg):=λC H B σ δ n x y p q Q Q' R rx ry h1 k=>by
 unfold gn at h1
 split at h1
 ·rename_i da ds;obtain⟨f1,f2,q⟩:=h1;have rx:RdX H B x da:=rx;cases(show RdX H B y (.tuple ds)from ry)with
  |@tup ay ys _ e1 e2 e3 e4=>
   refine⟨ay,ys,rfl,.inr (SqT.of e1),oY rx f1,pM e4 f2,?_⟩;rw[qx rx e4];exact k _ _ H n R (Kp.refl _ _) (wd (.bl _)) q
 ·rename_i da ds;obtain⟨f1,f2,q⟩:=h1;have rx:RdX H B x da:=rx;cases(show RdX H B y (.list ds)from ry)with
  |@lst ay ys _ e1 e2 e3 e4=>
   refine⟨ay,ys,rfl,.inl (SqL.of e1),oY rx f1,pM e4 f2,?_⟩;rw[qx rx e4];exact k _ _ H n R (Kp.refl _ _) (wd (.bl _)) q
 ·exact h1.elim
def aD:Wv->Wv->Int->DQ->Prop:=λx y n Q=>match x,y with
 |.d (.list ds),.d (.int i)=>match cF ds i with
  |some d=>Q (.d d) n
  |none=>False
 |.d (.tuple ds),.d (.int i)=>match cF ds i with
  |some d=>Q (.d d) n
  |none=>False
 |.d (.str z),.d (.int i)=>match cF z.cps.toList i with
  |some c=>Q (.d (.str ⟨#[c]⟩)) n
  |none=>False
 |_,_=>False
theorem yW(r:RdXs H B vs ds)(h:cF ds i=ae d):∃v,cF vs i=ae v/\RdX H B v d:=by
 unfold cF at h ⊢;rw[r.len];cases e:iJ ds.length i with
 |none=>rw[e]at h;cases h
 |some j=>
  rw[e]at h;exact r.getD h
theorem oS:bC (jD K) aD:=λC H B σ δ n x y p q Q Q' R rx ry h1 k=>by
 unfold aD at h1
 split at h1
 ·rename_i ds i
  split at h1
  ·rename_i d e;cases(show RdX H B y (.int i)from ry);cases(show RdX H B x (.list ds)from rx)with
   |@lst ay ys _ e1 e2 e3 e4=>
    obtain⟨v,f1,f2⟩:=yW e4 e;exact .inl ⟨ay,ys,i,v,rfl,rfl,SqL.of e1,f1,k _ _ H n R (Kp.refl _ _) (wd f2) h1⟩
  ·exact h1.elim
 ·rename_i ds i
  split at h1
  ·rename_i d e;cases(show RdX H B y (.int i)from ry);cases(show RdX H B x (.tuple ds)from rx)with
   |@tup ay ys _ e1 e2 e3 e4=>
    obtain⟨v,f1,f2⟩:=yW e4 e;exact .inr (.inl ⟨ay,ys,i,v,rfl,rfl,SqT.of e1,f1,k _ _ H n R (Kp.refl _ _) (wd f2) h1⟩)
  ·exact h1.elim
 ·rename_i z i
  split at h1
  ·rename_i c e;cases(show RdX H B y (.int i)from ry);cases(show RdX H B x (.str z)from rx)with
   |str _ hz=>exact .inr (.inr ⟨z,i,c,rfl,rfl,hz,e,k _ _ H n R (Kp.refl _ _) (wd (show RdX H B _ (.str ⟨#[c]⟩)from .str _ (by show 1<=A6;decide))) h1⟩)
  ·exact h1.elim
 ·exact h1.elim
theorem uZ(ha:DE X a ta wa)(hb:DE X b tb wb)(hs:nz b:=by exact λ_ _=>rfl):DE X (.Subscript a b pos) (d3 (jD X.K) ta tb) (w2 wa wb aD):=⟨fR md ha.pe hb.pe hs,pW oS ha.sd hb.sd⟩
def aP:List Wv->Int->DQ->Prop:=λxs n Q=>match xs with
 |[.d (.str x)]=>Q (.d (.int x.length)) n
 |[.d (.list ds)]=>Q (.d (.int ds.length)) n
 |[.d (.tuple ds)]=>Q (.d (.int ds.length)) n
 |_=>False
theorem WC:CallR X (.builtin "len") (λxs H Q=>(∃z,xs=[.str z]/\z.length<=A6/\Q (.int z.length) H)\/∃p ys,xs=[.ref p]/\(SqL X.K H p ys\/SqT X.K H p ys)/\Q (.int ys.length) H):=call_len_str.or sq
theorem Oz:dw (λxs H Q=>(∃z,xs=[.str z]/\z.length<=A6/\Q (.int z.length) H)\/∃p ys,xs=[.ref p]/\(SqL K H p ys\/SqT K H p ys)/\Q (.int ys.length) H) aP:=λC H B σ δ n vs xs Q Q' R r h k=>by
 unfold aP at h
 split at h
 ·rename_i x;cases r with
  |cons r1 r2=>
   cases r2;cases(show RdX H B _ (.str x)from r1)with
   |str _ hz=>exact .inl ⟨x,rfl,hz,k _ _ H n R (Kp.refl _ _) (wd (.int _)) h⟩
 ·rename_i ds;cases r with
  |cons r1 r2=>
   cases r2;cases(show RdX H B _ (.list ds)from r1)with
   |@lst ay ys _ e1 e2 e3 e4=>
    refine .inr ⟨ay,ys,rfl,.inl (SqL.of e1),?_⟩;rw[e4.len];exact k _ _ H n R (Kp.refl _ _) (wd (.int _)) h
 ·rename_i ds;cases r with
  |cons r1 r2=>
   cases r2;cases(show RdX H B _ (.tuple ds)from r1)with
   |@tup ay ys _ e1 e2 e3 e4=>
    refine .inr ⟨ay,ys,rfl,.inr (SqT.of e1),?_⟩;rw[e4.len];exact k _ _ H n R (Kp.refl _ _) (wd (.int _)) h
 ·exact h.elim
theorem QT(h:RdX H B v d):TyOf K H v (.type (sM d)):=by
 cases h with
 |non=>exact .non
 |bl b=>exact .bl b
 |int i=>exact .int i
 |str x h=>exact .str x
 |lst h1 h2 h3 h4=>exact .lst h1
 |tup h1 h2 h3 h4=>exact .tup h1
theorem U2(h:RdX H B v d)(hT:T="int"\/T="bool"\/T="str"\/T="tuple"\/T="list"):PySem.W.kitOne K (.type (sM d)) (.type T)=ae (fq T d):=by
 cases h<;>rcases hT with rfl|rfl|rfl|rfl|rfl<;>rfl
def bq(T:String)(w:DT):DT:=λδ n Q=>w δ n λx n1=>match x with
 |.d d=>Q (.d (.bool (fq T d))) n1
 |_=>False
theorem U4{p p2:Pos}(hT:T="int"\/T="bool"\/T="str"\/T="tuple"\/T="list")(hg:Gl X "isinstance")(hm:X.mg "isinstance"=af)(hg2:Gl X x)(hm2:X.mg x=af)(hv:Cf x=ae (.type T))(ha:DE X a ta wa)(hn:x≠"__name__":=by decide)(hdb:(x==("__debug__":Str))=ai:=by decide)
  (he:A8 [a,.Name x p2] X.env=(ai,eval a X.env)::A8 [.Name x p2] X.env:=by rfl) (he2:A8 [.Name x p2] X.env=(ai,eval (.Name x p2) X.env)::A8 [] X.env:=by rfl) (hpl:(Df pos (A8 [.Name x p2] X.env)).any (·.1)=ai:=by rfl):
  DE X (.Call (.Name "isinstance" p) [a,.Name x p2] [] pos) (i6 (λxs H Q=>∃x t b,xs=[x,.ty T]/\TyOf X.K H x t/\PySem.W.kitOne X.K t (.type T)=ae b/\Q (.bl b) H) (cK ta (cK (tC (.ty T)) bF))) (bq T wa):=
 ⟨nc (Vv (T:=T)) hg hm CM (cH ha.pe (cH (YW (v:=.ty T) hg2 hm2 hv rfl hn hdb) dS he2) he) ∎ ∎ he hpl,λC H B σ δ n Q Q' R q k=>ha.sd C H B σ δ n _ _ R q λv x H1 n1 R1 k1 r1 q1=>by
  cases x with
  |d d=>exact⟨v,_,_,rfl,QT r1,U2 (show RdX H1 B v d from r1) hT,k _ _ H1 n1 R1 k1 (wd (.bl _)) q1⟩
  |tp=>exact q1.elim
  |dk _=>exact q1.elim
  |ln _=>exact q1.elim
  |ob _=>exact q1.elim⟩
def Rl:List Wv->Int->DQ->Prop:=λxs n Q=>match xs with
 |[.d (.list ds)]=>Small (.list ds)/\Q (.d (.str (PyData.shown (.list ds)))) n
 |[.d (.tuple ds)]=>Small (.tuple ds)/\Q (.d (.str (PyData.shown (.tuple ds)))) n
 |_=>False
def fe:List Aa->Option (List Bool)
 |[]=>ae []
 |.bool b::r=>(fe r).map (b::·)
 |_::_=>af
theorem HY:∀{vs:List V}{ds:List Aa}{bs:List Bool},RdXs H B vs ds->fe ds=ae bs->vs=bs.map V.bl
 |_,_,bs,.nil,h=>by
  cases h;rfl
 |_,_,bs,.cons (d:=d) (ds:=ds) h1 h2,h=>by
  cases h1 with
  |bl b=>
   have h':(fe ds).map (b::·)=ae bs:=h;cases e:fe ds with
   |none=>rw[e]at h';cases h'
   |some cs=>
    rw[e]at h';cases h';rw[HY h2 e];rfl
  |_=>cases h
def bu:List Wv->Int->DQ->Prop:=λxs n Q=>match xs with
 |[.d (.list ds)]=>match fe ds with
  |some bs=>Q (.d (.bool (bs.all id))) n
  |none=>False
 |_=>False
theorem W2:dw (λxs H Q=>∃(p:Addr)(bs:List Bool),xs=[.ref p]/\H p=ae (.lst (bs.map V.bl))/\Q (.bl (bs.all id)) H) bu:=λC H B σ δ n vs xs Q Q' R r h k=>by
 unfold bu at h
 split at h
 ·rename_i ds
  split at h
  ·rename_i bs e;cases r with
   |cons r1 r2=>
    cases r2;cases(show RdX H B _ (.list ds)from r1)with
    |@lst ay ys _ e1 e2 e3 e4=>
     exact⟨ay,bs,rfl,by rw[<-HY e4 e];exact e1,k _ _ H n R (Kp.refl _ _) (wd (.bl _)) h⟩
  ·exact h.elim
 ·exact h.elim
def gD:List Wv->Int->DQ->Prop:=λxs n Q=>match xs with
 |[.d (.list ds)]=>Q (.d (.tuple ds)) n
 |[.d (.tuple ds)]=>Q (.d (.tuple ds)) n
 |_=>False
theorem O7:dw (λxs H Q=>∃p ys,xs=[.ref p]/\((SqL K H p ys/\∀l,H l=af->Q (.ref l) (upd H l (.tup ys)))\/(SqT K H p ys/\Q (.ref p) H))) gD:=λC H B σ δ n vs xs Q Q' R r h k=>by
 unfold gD at h
 split at h
 ·rename_i ds;cases r with
  |cons r1 r2=>
   cases r2;cases(show RdX H B _ (.list ds)from r1)with
   |@lst ay ys _ e1 e2 e3 e4=>
    refine⟨ay,ys,rfl,.inl ⟨SqL.of e1,λl hl=>?_⟩⟩;exact k _ _ _ n (R.new hl) (Kp.new hl) (wd (show RdX _ B _ (.tuple ds)from .tup bL (R.nb hl) e3 ((e4.fresh hl).less λb z=>.inl z))) h
 ·rename_i ds;cases r with
  |cons r1 r2=>
   cases r2;cases(show RdX H B _ (.tuple ds)from r1)with
   |@tup ay ys _ e1 e2 e3 e4=>exact⟨ay,ys,rfl,.inr ⟨SqT.of e1,k _ _ H n R (Kp.refl _ _) (wd (show RdX H B _ (.tuple ds)from .tup e1 e2 e3 e4)) h⟩⟩
 ·exact h.elim
def mf:List Wv->Int->DQ->Prop:=λxs n Q=>match xs with
 |[.d (.list ds)]=>Q (.d (.list ds)) n
 |[.d (.tuple ds)]=>Q (.d (.list ds)) n
 |_=>False
theorem VJ:dw (λxs H Q=>∃p ys,xs=[.ref p]/\(SqL K H p ys\/SqT K H p ys)/\∀l,H l=af->Q (.ref l) (upd H l (.lst ys))) mf:=λC H B σ δ n vs xs Q Q' R r h k=>by
 unfold mf at h
 split at h
 ·rename_i ds;cases r with
  |cons r1 r2=>
   cases r2;cases(show RdX H B _ (.list ds)from r1)with
   |@lst ay ys _ e1 e2 e3 e4=>
    refine⟨ay,ys,rfl,.inl (SqL.of e1),λl hl=>?_⟩;exact k _ _ _ n (R.new hl) (Kp.new hl) (wd (show RdX _ B _ (.list ds)from .lst bL (R.nb hl) e3 ((e4.fresh hl).less λb z=>.inl z))) h
 ·rename_i ds;cases r with
  |cons r1 r2=>
   cases r2;cases(show RdX H B _ (.tuple ds)from r1)with
   |@tup ay ys _ e1 e2 e3 e4=>
    refine⟨ay,ys,rfl,.inr (SqT.of e1),λl hl=>?_⟩;exact k _ _ _ n (R.new hl) (Kp.new hl) (wd (show RdX _ B _ (.list ds)from .lst bL (R.nb hl) e3 ((e4.fresh hl).less λb z=>.inl z))) h
 ·exact h.elim
end
structure ItOk(fz:Hp)(J:It)(ds:List Aa):Prop where
 le:ds.length<=A6
 go:∀i H,(∀b o,fz b=ae o->H b=ae o)->i < ds.length->J.go i H
 stop:∀H,(∀b o,fz b=ae o->H b=ae o)->J.stop ds.length H
 yld:∀i H x H' d,(∀b o,fz b=ae o->H b=ae o)->ds[i]?=ae d->J.yld i H x H'->qF H H'/\∀B,(∀b o,fz b=ae o->¬B b)->(∀b,B b->H b≠af)->RdX H' B x d
def pZ(H:Hp)(B:Addr->Prop)(fz:Hp):Prop:=(∀b o,fz b=ae o->H b=ae o/\¬B b)/\∀b o,H b=ae o->¬B b->fz b=ae o
abbrev gG:=Sl->Int->(List Aa->Int->Prop)->Prop
def zT(wi:TI)(v:gG):Prop:=∀(C:Ctx)(H:Hp)(B:Addr->Prop)(σ:St)(δ:Sl)(n:Int)(Q:List Aa->Int->Prop)(Q':It->Hp->Prop),Rel C H B σ δ n->v δ n Q->
 (∀J ds H' n',Rel C H' B σ δ n'->Kp C.t H H'->(∀fz,pZ H' B fz->ItOk fz J ds)->Q ds n'->Q' J H')->wi σ H Q'
structure DI(X:Cx)(tg iter:Expr)(wi:TI)(v:gG):Prop where
 pi:PI X tg iter wi
 sd:zT wi v
section
variable{X:Cx}{tg a b c e:Expr}{ta tb te:TE}{wa wb we:DT}{pos p:Pos}
def eY(w:DT):gG:=λδ n Q=>w δ n λx n1=>match x with
 |.d (.list ds)=>Q ds n1
 |_=>False
def bN(w:DT):gG:=λδ n Q=>w δ n λx n1=>match x with
 |.d (.tuple ds)=>Q ds n1
 |_=>False
def ig(x:Str):List Aa:=x.cps.toList.map λc=>.str ⟨#[c]⟩
def fc(w:DT):gG:=λδ n Q=>w δ n λx n1=>match x with
 |.d (.str x)=>Q (ig x) n1
 |_=>False
theorem LW(ha:DE X a ta wa):DI X tg a (AW X.K ta) (eY wa):=⟨QM ha.pe,λC H B σ δ n Q Q' R q k=>ha.sd C H B σ δ n _ _ R q λv x H1 n1 R1 k1 r1 q1=>by
 split at q1
 ·rename_i ds;cases(show RdX H1 B v (.list ds)from r1)with
  |@lst ay ys _ e1 e2 e3 e4=>
   refine⟨ay,rfl,⟨ys,SqL.of e1⟩,k _ ds H1 n1 R1 k1 (λfz th=>?_) q1⟩;have hfz:fz ay=ae (.lst ys):=th.2 _ _ e1 e2;refine⟨by rw[<-e4.len];exact e3,λi H hH hi=>?_,λH hH=>?_,λi H x H' d hH hd hy=>?_⟩
   ·rw[<-e4.len]at hi;exact⟨ys,ys[i],SqL.of (hH _ _ hfz),Ar hi⟩
   ·exact⟨ys,SqL.of (hH _ _ hfz),by rw[e4.len];exact Ay _⟩
   ·obtain⟨rfl,hy⟩:=hy;refine⟨λ_ _ z=>z,λB' hB hBa=>?_⟩;obtain⟨u,hu,ru⟩:=e4.getD hd;have:=hy _ (SqL.of (hH _ _ hfz));rw[hu]at this;cases this;exact ru.move λb o e ne=>⟨hH _ _ (th.2 _ _ e ne),hB _ _ (th.2 _ _ e ne)⟩
 ·exact q1.elim⟩
theorem LM(ha:DE X a ta wa):DI X tg a (mr X.K ta) (bN wa):=⟨RA ha.pe,λC H B σ δ n Q Q' R q k=>ha.sd C H B σ δ n _ _ R q λv x H1 n1 R1 k1 r1 q1=>by
 split at q1
 ·rename_i ds;cases(show RdX H1 B v (.tuple ds)from r1)with
  |@tup ay ys _ e1 e2 e3 e4=>
   refine⟨ay,rfl,⟨ys,SqT.of e1⟩,k _ ds H1 n1 R1 k1 (λfz th=>?_) q1⟩;have hfz:fz ay=ae (.tup ys):=th.2 _ _ e1 e2;refine⟨by rw[<-e4.len];exact e3,λi H hH hi=>?_,λH hH=>?_,λi H x H' d hH hd hy=>?_⟩
   ·rw[<-e4.len]at hi;exact⟨ys,ys[i],SqT.of (hH _ _ hfz),Ar hi⟩
   ·exact⟨ys,SqT.of (hH _ _ hfz),by rw[e4.len];exact Ay _⟩
   ·obtain⟨rfl,hy⟩:=hy;refine⟨λ_ _ z=>z,λB' hB hBa=>?_⟩;obtain⟨u,hu,ru⟩:=e4.getD hd;have:=hy _ (SqT.of (hH _ _ hfz));rw[hu]at this;cases this;exact ru.move λb o e ne=>⟨hH _ _ (th.2 _ _ e ne),hB _ _ (th.2 _ _ e ne)⟩
 ·exact q1.elim⟩
theorem Xc(ha:DE X a ta wa):DI X tg a (qI ta) (fc wa):=⟨XU ha.pe,λC H B σ δ n Q Q' R q k=>ha.sd C H B σ δ n _ _ R q λv x H1 n1 R1 k1 r1 q1=>by
 split at q1
 ·rename_i x;cases(show RdX H1 B v (.str x)from r1)with
  |str _ hx=>
   have hl:(ig x).length=x.cps.size:=by unfold ig;simp
   refine⟨x,rfl,k _ (ig x) H1 n1 R1 k1 (λfz th=>⟨?_,λi H hH hi=>?_,λH hH=>?_,λi H y H' d hH hd hy=>?_⟩) q1⟩
   ·rw[hl];exact hx
   ·rw[hl]at hi;exact hi
   ·exact hl
   ·obtain⟨rfl,cc,hc,rfl⟩:=hy;refine⟨λ_ _ z=>z,λB' hB hBa=>?_⟩;unfold ig at hd;rw[Bh,Array.getElem?_toList,hc]at hd;cases hd;exact .str _ (by show 1<=A6;decide)
 ·exact q1.elim⟩
def cO(lo:Int)(n:Nat):List Aa:=(Ce n).map λi=>.int (lo+(i:Nat))
def dF(w:DT):gG:=λδ n Q=>w δ n λx n1=>match x with
 |.d (.int j)=>(-(2 ^ 62)<=j/\j<=1000000)/\Q (cO 0 j.toNat) n1
 |_=>False
theorem RE(fz)(lo)(n)(hn:n<=1000000):ItOk fz (t9 lo n) (cO lo n):=by
 have hl:(cO lo n).length=n:=by unfold cO;simp
 refine⟨?_,λi H hH hi=>?_,λH hH=>?_,λi H y H' d hH hd hy=>?_⟩
 ·rw[hl];exact A4 hn ∎
 ·rw[hl]at hi;exact hi
 ·show n<=(cO lo n).length;rw[hl];exact Ay _
 ·obtain⟨rfl,rfl⟩:=hy;refine⟨λ_ _ z=>z,λB' hB hBa=>?_⟩;unfold cO at hd;rw[Bh]at hd;cases e:(Ce n)[i]? with
  |none=>rw[e]at hd;cases hd
  |some j=>
   rw[e]at hd;have:j=i:=by
    obtain⟨h1,h2⟩:=Bu.mp e;rw[List.getElem_range]at h2;exact h2.symm
   subst this;cases hd;exact .int _
theorem Uj(hg:Gl X "range")(hm:X.mg "range"=af)(ha:DE X a ta wa)(hs:A8 [a] X.env=[(ai,eval a X.env)]:=by rfl):DI X tg (.Call (.Name "range" p) [a] [] pos) (J7 (cK ta bF)) (dF wa):=⟨MB hg hm (cH ha.pe dS hs) hs,λC H B σ δ n Q Q' R q k=>ha.sd C H B σ δ n _ _ R q λv x H1 n1 R1 k1 r1 q1=>by
 split at q1
 ·rename_i j;cases(show RdX H1 B v (.int j)from r1);refine⟨j,rfl,q1.1.1,by have:=q1.1.2;have:(2:Int)^62=4611686018427387904:=∎;omega,k _ (cO 0 j.toNat) H1 n1 R1 k1 (λfz _=>RE fz 0 j.toNat (by have:=q1.1.2;omega)) q1.2⟩
 ·exact q1.elim⟩
end
abbrev eD:=Aa->Sl->(Sl->Prop)->Prop
def xm(g:TG)(v:eD):Prop:=∀(C:Ctx)(H:Hp)(B:Addr->Prop)(σ:St)(δ:Sl)(n:Int)(x:V)(d:Aa)(Q:Sl->Prop)(Q':St->Hp->Prop),Rel C H B σ δ n->RdX H B x d->v d δ Q->
 (∀σ' δ',Rel C H B σ' δ' n->Q δ'->Q' σ' H)->g x σ H Q'
structure DG(X:Cx)(tg:Expr)(g:TG)(v:eD):Prop where
 pg:PG X tg g
 sd:xm g v
section
variable{X:Cx}{pos:Pos}
def aF(i:Nat):eD:=λd δ Q=>Q (δ.set i (↑d))
theorem zu(hN:X.N.Nodup)(hi:X.N[i]?=ae x)(hx:jz X.env.scope x)(hf:X.fn x=ah\/X.env.scope.names.lookup x=ae .local:=by first|exact .inl rfl|exact .inr rfl|assumption):DG X (.Name x pos) (fB i) (aF i):=
 ⟨QI hN hi hx hf,λC H B σ δ n x d Q Q' R r q k=>k _ _ (R.set (x:=.d d) r rfl) q⟩
end
def c6(g:eD)(W:aL)(K:DEnds):List Aa->Sl->Int->Prop
 |[],δ,n=>K.nx δ n
 |d::r,δ,n=>g d δ λδ'=>W δ' n {K with nx:=c6 g W K r,ct:=c6 g W K r,bk:=K.nx}
def bj(v:gG)(g:eD)(W:aL):aL:=λδ n K=>v δ n λds n1=>c6 g W K ds δ n1
def d5(H:Hp)(B:Addr->Prop):Hp:=λb=>open Classical in if B b then af else H b
theorem o8(H)(B):pZ H B (d5 H B):=by
 refine⟨λb o e=>?_,λb o e n=>?_⟩
 ·unfold d5 at e
  split at e
  ·cases e
  ·rename_i h;exact⟨e,h⟩
 ·unfold d5;rw[if_neg n];exact e
theorem Rel.refz(R:Rel C H B σ δ n):Rel {C with fz:=d5 H B} H B σ δ n:=
 ⟨R.tp,R.kp,R.t0,R.l0,R.g0,(o8 H B).1,R.bt,R.b0,R.ba,R.a0,R.sl,R.ow,R.len⟩
theorem Rel.unfz{fz:Hp}(R:Rel {C with fz:=fz} H B σ δ n)(h:∀b o,C.fz b=ae o->fz b=ae o):Rel C H B σ δ n:=
 ⟨R.tp,R.kp,R.t0,R.l0,R.g0,λb o e=>R.fz b o (h b o e),R.bt,R.b0,R.ba,R.a0,R.sl,R.ow,R.len⟩
theorem Rel.same(R:Rel C H B σ δ n)(k:qF H H'):Rel C H' B σ δ n:=by
 obtain⟨a,b,e,h⟩:=R.tp.ob;exact R.step ⟨⟨a,b,k _ _ e,h⟩,k _ _ R.tp.ls,R.tp.len,λz=>k _ _ (R.tp.ag z),R.tp.gne⟩ λb o e _=>k b o e
section
variable{X:Cx}{tg iter:Expr}{body:List Stmt}{wi:TI}{v:gG}{g:TG}{gd:eD}{T:TS}{W:aL}{pos:Pos}
theorem MG(hi:DI X tg iter wi v)(hg:DG X tg g gd)(hb:DSs X body T W)(hp:PassesOwn (Bn X.prog X.w) X.A X.env X.xe:=by exact PassesOwn.never)(hc:X.calm=ah:=by rfl)
  (hs:∀x,Ex iter X.env x=pure x:=by intro _;rfl):DS X (.For tg iter body [] pos) (j4 wi g T) (bj v gd W):=⟨EU hp hc hi.pi hg.pg hb.ps hs,λC H B σ δ n K D R q E=>
 hi.sd C H B σ δ n _ _ R q λJ ds H1 n1 R1 k1 hJ q1=>by
  have ok:=hJ (d5 H1 B) (o8 H1 B);have R1':=R1.refz;have back:∀{H B' σ δ n},Rel {C with fz:=d5 H1 B} H B' σ δ n->Rel C H B' σ δ n:=λR=>R.unfz λb o e=>(o8 H1 B).2 b o (R1.fz b o e).1 (R1.fz b o e).2;refine⟨λi m σ H=>m=ds.length-i/\i<=ds.length/\∃B' δ n,Rel {C with fz:=d5 H1 B} H B' σ δ n/\c6 gd W K (ds.drop i) δ n,⟨ds.length,by simp,Bf _,B,δ,n1,R1',by simpa using q1⟩,?_⟩
  rintro i m σ2 H2 ⟨rfl,hi,B2,δ2,n2,R2,q2⟩
  have hfz:∀b o,d5 H1 B b=ae o->H2 b=ae o:=λb o e=>(R2.fz b o e).1;by_cases hlt:i < ds.length
  ·rw[G8 hlt]at q2;refine .inr ⟨ok.go i H2 hfz hlt,λσ3 H3=>∃B' δ n,Rel {C with fz:=d5 H1 B} H3 B' σ3 δ n/\c6 gd W K (ds.drop (i+1)) δ n,λσ' H' z=>⟨ds.length-(i+1),by omega,rfl,hlt,z⟩,λx H' hy=>?_⟩;obtain⟨sm,rd⟩:=ok.yld i H2 x H' ds[i] hfz (Ar hlt) hy;have R3:=R2.same sm;refine hg.sd _ H' B2 σ2 δ2 n2 x ds[i] _ _ R3 (rd B2 (λb o e=>(R2.fz b o e).2) R2.ba) q2 λσ' δ' R4 q4=>?_;refine hb.sd _ H' B2 σ' δ' n2 _ _ R4 q4 ⟨?_,?_,?_,?_,λH B σ δ n a xs ds R h0 h1 h2 h3 q=>E.rn H B σ δ n a xs ds (back R) h0 h1 h2 h3 q⟩
   ·exact λH B σ δ n R q=>⟨B,δ,n,R,q⟩
   ·exact λH B σ δ n v w R r q=>E.rt H B σ δ n v w (back R) r q
   ·exact λH B σ δ n R q=>E.nx H B σ δ n (back R) q
   ·exact λH B σ δ n R q=>⟨B,δ,n,R,q⟩
  ·have e:i=ds.length:=by omega
   subst e;rw[List.drop_length]at q2;exact .inl ⟨ok.stop H2 hfz,E.nx H2 B2 σ2 δ2 n2 (back R2) q2⟩⟩
end
def dR(fr:List (Option Nat))(δ:Sl):Sl:=fr.map λo=>o.bind λi=>match δ[i]? with
 |some (ae (.w x))=>ae (.w x)
 |some (ae (.odk kvs))=>ae (.w (.dk kvs))
 |some (ae (.own ds))=>ae (.w (.ln ds))
 |_=>af
def cM(g:eD)(c:cI)(w:DT)(Q:List Aa->Int->Prop):List Aa->List Aa->Sl->Int->Prop
 |[],acc,_,n=>Q acc n
 |d::r,acc,δ,n=>g d δ λδ'=>c δ' n λb n1=>if b=ah then w δ' n1 λx n2=>match x with
   |.d y=>cM g c w Q r (acc++[y]) δ' n2
   |_=>False
  else cM g c w Q r acc δ' n1
def bB(fr:List (Option Nat))(v:gG)(g:eD)(c:cI)(w:DT):fK:=λδ n Q=>v δ n λds n1=>cM g c w Q ds [] (dR fr δ) n1
structure DIf(X:Cx)(ifs:List Expr)(t:TT)(c:cI):Prop where
 pf:qC X ifs t
 sd:j2 t c
def aQ:cI:=λ_ n Q=>Q ah n
theorem Nm:DIf X [] IW aQ:=⟨N8,λC H B σ δ n Q Q' R q k=>k ah H n R (Kp.refl _ _) q⟩
theorem WT(h:DC X c t cc):DIf X [c] t cc:=⟨RC h.pt,h.sd⟩
theorem Vf(fr:List (Option Nat))(σ):(d8 fr σ).length=fr.length:=by unfold d8;rw[Ab]
theorem UX(fr:List (Option Nat))(δ):(dR fr δ).length=fr.length:=by unfold dR;rw[Ab]
theorem BD{j:Nat}(h:(dR fr δ)[j]?=ae (ae x)):∃i y,fr[j]?=ae (ae i)/\δ[i]?=ae (ae y)/\((∃z,x=.w z/\y=.w z)\/(∃kvs,x=.w (.dk kvs)/\y=.odk kvs)\/∃ds,x=.w (.ln ds)/\y=.own ds):=by
 unfold dR at h;rw[Bh]at h;cases e:fr[j]? with
 |none=>rw[e]at h;cases h
 |some o=>
  rw[e]at h;cases o with
  |none=>cases h
  |some i=>
   have h':=B3 h;dsimp only[Cu]at h'
   split at h'
   ·rename_i z ez;cases h';exact⟨i,_,rfl,ez,.inl ⟨z,rfl,rfl⟩⟩
   ·rename_i kvs ez;cases h';exact⟨i,_,rfl,ez,.inr (.inl ⟨kvs,rfl,rfl⟩)⟩
   ·rename_i ds ez;cases h';exact⟨i,_,rfl,ez,.inr (.inr ⟨ds,rfl,rfl⟩)⟩
   ·cases h'
theorem NI{j i:Nat}(h:fr[j]?=ae (ae i))(h2:σ[i]?=ae (ae v)):(d8 fr σ)[j]?=ae (ae v):=by
 unfold d8;rw[Bh,h];show ae ((σ[i]?).bind id)=_;rw[h2];rfl
theorem Vk(R:Rel C H B σ δ n)(hL:H L=af):
  Rel ⟨C.t,C.l,C.ns,H,B,d5 H B⟩ (upd H L (.lst [])) (λb=>B b\/b=L) (d8 fr σ) (dR fr δ) n where
 tp:=R.tp.new hL
 kp:=Kp.new hL
 t0:=R.ba _ R.bt
 l0:=by
  show H C.l.s≠af;rw[R.tp.ls];exact λz=>nomatch z
 g0:=λe=>by
  show H C.l.g≠af;rw[R.tp.ag e];exact λz=>nomatch z
 fz:=λb o e=>by
  obtain⟨e1,e2⟩:=(o8 H B).1 b o e;exact⟨by rw[bc (b5 e1 hL)];exact e1,λz=>z.elim e2 λq=>b5 e1 hL q⟩
 bt:=.inl R.bt
 b0:=λb z=>.inl z
 ba:=λb z e=>by
  by_cases q:b=L
  ·rw[q,bL]at e;cases e
  ·rw[bc q]at e;exact R.ba b (z.resolve_right q) e
 a0:=R.ba
 sl:=λj x e=>by
  have mv:∀b o',H b=ae o'->¬B b->upd H L (.lst []) b=ae o'/\¬(B b\/b=L):=λb o' e n=>⟨by rw[bc (b5 e hL)];exact e,λz=>z.elim n λq=>b5 e hL q⟩;obtain⟨i,y,e1,e2,hy⟩:=BD e;obtain⟨v,f1,f2⟩:=R.sl i y e2;refine⟨v,NI e1 f1,?_⟩;rcases hy with⟨z,rfl,rfl⟩|⟨kvs,rfl,rfl⟩|⟨ds,rfl,rfl⟩
  ·cases z with
   |d d=>exact⟨f2.1.move mv,λz=>by cases z⟩
   |tp=>exact⟨f2.1,λz=>by cases z⟩
   |ln ds=>
    obtain⟨a,l,g1,g2,g3,g4,g5⟩:=f2.1;exact⟨⟨a,l,g1,by rw[bc (b5 g2 hL)];exact g2,g3,g4,g5.move mv⟩,λ_=>⟨a,g1,by show H a≠af;rw[g2];exact λz=>nomatch z⟩⟩
   |dk kvs=>
    obtain⟨a,l,g1,g2,g3,g4⟩:=f2.1;exact⟨⟨a,l,g1,by rw[bc (b5 g2 hL)];exact g2,g3,g4.move mv⟩,λ_=>⟨a,g1,by show H a≠af;rw[g2];exact λz=>nomatch z⟩⟩
   |ob o=>
    refine⟨?_,λz=>by cases z⟩;exact ORel.move mv f2.1
  ·obtain⟨a,l,g1,g2,g3,g4,g5,g6⟩:=f2;exact⟨⟨a,l,g1,by rw[bc (b5 g2 hL)];exact g2,λz=>R.t0 (z▸g4),g6.move mv⟩,λ_=>⟨a,g1,by show H a≠af;rw[g2];exact λz=>nomatch z⟩⟩
  ·obtain⟨a,l,g1,g2,g3,g4,g5,g6⟩:=f2;exact⟨⟨a,l,g1,by rw[bc (b5 g2 hL)];exact g2,λz=>R.t0 (z▸g4),g5,g6.move mv⟩,λ_=>⟨a,g1,by show H a≠af;rw[g2];exact λz=>nomatch z⟩⟩
 ow:=λi j x y v e1 e2 o1 o2 _ _=>by
  obtain⟨_,_,_,_,hy⟩:=BD e1;rcases hy with⟨z,rfl,_⟩|⟨kvs,rfl,_⟩|⟨ds,rfl,_⟩
  ·cases o1
  ·cases o1
  ·cases o1
 len:=by rw[Vf,UX]
section
variable{X:Cx}{elt tg iter:Expr}{ifs:List Expr}{scope:Fl}{cl:List (Str×Addr)}{pos:Pos}{N:List Str}{fr:List (Option Nat)}{wi:TI}{v:gG}{g:TG}{gd:eD}{tt:TT}{cc:cI}{te:TE}{we:DT}
def iI(δ:Sl):Prop:=∀(i:Nat)(x:SV),δ[i]?=ae (ae x)->x.isOwn=ai
theorem O2(fr)(δ):iI (dR fr δ):=λi x e=>by
 obtain⟨_,_,_,_,hy⟩:=BD e;rcases hy with⟨z,rfl,_⟩|⟨kvs,rfl,_⟩|⟨ds,rfl,_⟩<;>rfl
def lG(v:eD):Prop:=∀d δ Q,iI δ->v d δ Q->v d δ λδ'=>iI δ'/\Q δ'
theorem vS(i):lG (aF i):=λd δ Q h q=>⟨λj x e=>by
 rcases gL e with⟨_,rfl⟩|⟨_,e'⟩
 ·rfl
 ·exact h j x e',q⟩
theorem z9(hc:X.calm=ah)(S:CompSc X N scope cl fr)(hi:DI X tg iter wi v)(hg:∀s H fp,DG (dj X N scope cl s H fp) tg g gd)(ht:∀s H fp,DIf (dj X N scope cl s H fp) ifs tt cc)
  (he:∀s H fp,DE (dj X N scope cl s H fp) elt te we) (hno:lG gd) (hs:∀x,Ex iter X.env x=pure x:=by intro _;rfl):
  DF X (.ListComp elt [⟨tg,iter,ifs,0⟩] scope pos) (pd fr wi g tt te) (bB fr v gd cc we):=by
 refine⟨Oc hc S hi.pi (λs H fp=>(hg s H fp).pg) (λs H fp=>(ht s H fp).pf) (λs H fp=>(he s H fp).pe) hs,λC H B σ δ n Q Q' R q k=>hi.sd C H B σ δ n _ _ R q λJ ds H1 n1 R1 k1 hJ q1=>λL hL=>?_⟩;have sg:=(hg X.s₀ X.H₀ []).sd;have st:=(ht X.s₀ X.H₀ []).sd;have se:=(he X.s₀ X.H₀ []).sd;have ok:=hJ (d5 H1 B) (o8 H1 B);have hLt:L≠C.t:=λz=>R1.ba _ R1.bt (z▸hL);refine⟨λi m ys τ H=>m=ds.length-i/\i<=ds.length/\ys.length<=i/\∃δ' n' acc,Rel ⟨C.t,C.l,C.ns,H1,B,d5 H1 B⟩ H (λb=>B b\/b=L) τ δ' n'/\iI δ'/\H L=ae (.lst ys)/\RdXs H (λb=>B b\/b=L) ys acc/\cM gd cc we Q (ds.drop i) acc δ' n',
  ⟨ds.length,by simp,Bf _,Bf _,dR fr δ,n1,[],Vk R1 hL,O2 fr δ,bL,.nil,by simpa using q1⟩,?_⟩
 rintro i m ys τ H2 ⟨rfl,hi,hys,δ2,n2,acc,R2,no2,hL2,rd2,q2⟩
 have hfz:∀b o,d5 H1 B b=ae o->H2 b=ae o:=λb o e=>(R2.fz b o e).1;by_cases hlt:i < ds.length
 ·rw[G8 hlt]at q2;refine .inr ⟨ok.go i H2 hfz hlt,By (Fg hys hlt) ok.le,λx H' hy=>?_⟩;obtain⟨sm,rd⟩:=ok.yld i H2 x H' ds[i] hfz (Ar hlt) hy;have R3:=R2.same sm;refine sg _ H' _ τ δ2 n2 x ds[i] _ _ R3 (rd _ (λb o e=>(R2.fz b o e).2) R2.ba) (hno _ _ _ no2 q2) λτ3 δ3 R4 ⟨no3,q4⟩=>?_;refine st _ H' _ τ3 δ3 n2 _ _ R4 q4 λb H4 n4 R5 k5 q5=>?_;have hL4:H4 L=ae (.lst ys):=k5 _ _ (sm _ _ hL2) hLt;have rd4:RdXs H4 (λb=>B b\/b=L) ys acc:=(rd2.keep λb o e _=>sm b o e).kp k5 R4.bt;cases b with
  |false=>
   rw[if_neg Al]at q5 ⊢;exact⟨ds.length-(i+1),by omega,rfl,hlt,by omega,δ3,n4,acc,R5,no3,hL4,rd4,q5⟩
  |true=>
   rw[if_pos rfl]at q5 ⊢;refine se _ H4 _ τ3 δ3 n4 _ _ R5 q5 λu y H5 n5 R6 k6 r6 q6=>?_;cases y with
   |d y=>
    have hL5:H5 L=ae (.lst ys):=k6 _ _ hL4 hLt;refine⟨hL5,ds.length-(i+1),by omega,rfl,hlt,by rw[Ah,As];omega,δ3,n5,acc++[y],R6.mut (.inr rfl) hL λj z e o=>absurd (no3 j z e) (by rw[o];exact λq=>nomatch q),no3,bL,?_,q6⟩;refine RdXs.keep (λb o e n=>?_) ((rd4.kp k6 R5.bt).append (.cons r6 .nil));rw[bc λ(z:b=L)=>n (.inr z)];exact e
   |tp=>exact q6.elim
   |dk _=>exact q6.elim
   |ln _=>exact q6.elim
   |ob _=>exact q6.elim
 ·have e:i=ds.length:=by omega
  subst e;rw[List.drop_length]at q2;refine .inl ⟨ok.stop H2 hfz,k L ys acc H2 n2 (R1.step R2.tp R2.kp) (k1.trans R2.kp) (R1.was k1 hL) hL2 (A4 hys ok.le) rd2 q2⟩
end
abbrev eG:=List Aa->Sl->(Sl->Prop)->Prop
def NW(g:iL)(v:eG):Prop:=∀(C:Ctx)(H:Hp)(B:Addr->Prop)(σ:St)(δ:Sl)(n:Int)(xs:List V)(ds:List Aa)(Q:Sl->Prop)(Q':St->Hp->Prop),Rel C H B σ δ n->RdXs H B xs ds->v ds δ Q->
 (∀σ' δ',Rel C H B σ' δ' n->Q δ'->Q' σ' H)->g xs σ H Q'
structure DGs(X:Cx)(ts:List Expr)(g:iL)(v:eG):Prop where
 pg:qD X ts g
 sd:NW g v
def cq:eG:=λds δ Q=>match ds with
 |[]=>Q δ
 |_=>False
def bP(v:eD)(r:eG):eG:=λds δ Q=>match ds with
 |d::ds=>v d δ λδ'=>r ds δ' Q
 |[]=>False
def cR(n:Nat)(r:eG):eD:=λd δ Q=>match d with
 |.tuple ds=>ds.length=n/\r ds δ Q
 |_=>False
theorem WN:∀ds δ Q,iI δ->cq ds δ Q->cq ds δ λδ'=>iI δ'/\Q δ':=λds δ Q h q=>by
 cases ds with
 |nil=>exact⟨h,q⟩
 |cons _ _=>exact q
theorem Hu(mono:∀d δ (Q Q':Sl->Prop),(∀δ',Q δ'->Q' δ')->v d δ Q->v d δ Q')(hv:lG v)(hr:∀ds δ Q,iI δ->r ds δ Q->r ds δ λδ'=>iI δ'/\Q δ'):∀ds δ Q,iI δ->bP v r ds δ Q->bP v r ds δ λδ'=>iI δ'/\Q δ':=λds δ Q h q=>by
 cases ds with
 |nil=>exact q
 |cons d ds=>exact mono d δ _ _ (λδ' z=>hr ds δ' Q z.1 z.2) (hv d δ _ h q)
theorem Yo(hr:∀ds δ Q,iI δ->r ds δ Q->r ds δ λδ'=>iI δ'/\Q δ'):lG (cR n r):=λd δ Q h q=>by
 unfold cR at q ⊢
 split at q
 ·exact⟨q.1,hr _ _ _ h q.2⟩
 ·exact q.elim
theorem Xh(i j n):lG (cR n (bP (aF i) (bP (aF j) cq))):=
 Yo (Hu (λ_ _ _ _ h q=>h _ q) (vS i) (Hu (λ_ _ _ _ h q=>h _ q) (vS j) WN))
section
variable{X:Cx}{pos:Pos}
theorem IB:DGs X [] j3 cq:=⟨Zo,λC H B σ δ n xs ds Q Q' R r q k=>by
 cases r with
 |nil=>exact⟨rfl,k σ δ R q⟩
 |cons _ _=>exact q.elim⟩
end
section
variable{X:Cx}{pos:Pos}
theorem zx(h1:DG X e t v)(h2:DGs X es u r)
  (hs:(Ee (e::es) X.env).map (·.2)=assign e X.env::(Ee es X.env).map (·.2):=by rfl):DGs X (e::es) (mK t u) (bP v r):=⟨Y7 h1.pg h2.pg hs,λC H B σ δ n xs ds Q Q' R rr q k=>by
 cases rr with
 |nil=>exact q.elim
 |cons r1 r2=>exact⟨_,_,rfl,h1.sd C H B σ δ n _ _ _ _ R r1 q λσ' δ' R' q'=>h2.sd C H B σ' δ' n _ _ _ _ R' r2 q' k⟩⟩
theorem Ux{k:Nat}{n:Nat}(h:DGs X es t r)(hc:X.calm=ah:=by rfl)
  (hn:(Ee es X.env).length=n:=by rfl) (hst:(Ee es X.env).findIdx? (·.1)=af:=by rfl):DG X (.Tuple es k pos) (jd X.K n t) (cR n r):=⟨O3 hc h.pg hn hst,λC H B σ δ n' x d Q Q' R rr q k=>by
 unfold cR at q
 split at q
 ·rename_i ds;cases rr with
  |@tup ay ys _ e1 e2 e3 e4=>exact⟨ay,ys,rfl,SqT.of e1,by rw[e4.len];exact q.1,h.sd C H B σ δ n' _ _ _ _ R e4 q.2 k⟩
 ·exact q.elim⟩
def jW:List Aa->Option (List Str)
 |[]=>ae []
 |.str b::r=>(jW r).map (b::·)
 |_::_=>af
def xE(K:Ag):V->List V->Hp->VK->Prop:=λx vs H Q=>∃(z:Str)(p:Addr)(ys:List Str),x=.str z/\vs=[.ref p]/\(SqL K H p (ys.map V.str)\/SqT K H p (ys.map V.str))/\(ys.map (·.length)).sum+ys.length*z.length<=16777216/\Q (.str (D6 z ys)) H
theorem Le:∀{us:List Aj},Vals (ys.map V.str) us->PyProof.Rows.StrsAre us ys:=by
 induction ys with
 |nil=>
  intro us h;cases h;exact .nil
 |cons y r ih=>
  intro us h;rw[A3]at h;cases h with
  |cons h1 h2=>
   obtain⟨t,rfl⟩:=h1;exact .cons y t (ih h2)
theorem Vw:rm X "str.join" (xE X.K):=by
 intro pins s σ H x xs v us Q I rx rv h;obtain⟨z,p,ys,rfl,rfl,hq,hok,q⟩:=h;obtain⟨t,rfl⟩:=(show ∃t,v=D7 z t from rx);obtain⟨u,rfl,ru⟩:=rv.one;cases(show u=B8 p from ru);rcases hq with hq|hq
 ·obtain⟨its,r',pl,_⟩:=I.list hq;exact PyProof.Rows.join_list pl.isList (by simpa using Le r') hok λt' k=>⟨.str _,H,I.tok k,⟨t',rfl⟩,q⟩
 ·obtain⟨its,r',pl,_⟩:=I.tuple hq;exact PyProof.Rows.join_tuple pl (by simpa using Le r') hok λt' k=>⟨.str _,H,I.tok k,⟨t',rfl⟩,q⟩
theorem qL:∀{vs:List V}{ds:List Aa}{ys:List Str},RdXs H B vs ds->jW ds=ae ys->vs=ys.map V.str
 |_,_,ys,.nil,h=>by
  cases h;rfl
 |_,_,ys,.cons (d:=d) (ds:=ds) h1 h2,h=>by
  cases h1 with
  |str b hb=>
   have h':(jW ds).map (b::·)=ae ys:=h;cases e:jW ds with
   |none=>rw[e]at h';cases h'
   |some cs=>
    rw[e]at h';cases h';rw[qL h2 e];rfl
  |_=>cases h
def fY(w w':DT):DT:=λδ n Q=>w δ n λx n1=>match x with
 |.d (.str z)=>w' δ n1 λy n2=>match y with
  |.d (.list ds)=>match jW ds with
   |some ys=>(ys.map (·.length)).sum+ys.length*z.length<=16777216/\Q (.d (.str (D6 z ys))) n2
   |none=>False
  |.d (.tuple ds)=>match jW ds with
   |some ys=>(ys.map (·.length)).sum+ys.length*z.length<=16777216/\Q (.d (.str (D6 z ys))) n2
   |none=>False
  |_=>False
 |_=>False
theorem U1{ap cp:Pos}(ho:DE X o to wo)(he:DE X e te we)
  (hbase:E6 o "join" X.env (eval o X.env)=eval o X.env:=by rfl)
  (hfew:((Df cp (A8 [e] X.env)).all (λx=>!x.1)&&(backToKw cp (F7 [] X.env)).all (λx=>x.1.isSome)
   && decide ([e].length+([]:List Fb).length+(if ([]:List Fb).isEmpty then 0 else 1) < 30))=ah:=by rfl)
  (hline:(ap.endLine==cp.line)=ah:=by rfl) (hs:A8 [e] X.env=[(ai,eval e X.env)]:=by rfl) (hplain:(Df cp (A8 [] X.env)).any (·.1)=ai:=by rfl):
  DE X (.Call (.Attribute o "join" ap) [e] [] cp) (jB X.K "str" (xE X.K) to (cK te bF)) (fY wo we):=
 ⟨ml PySem.F.plainAttrs_str PySem.F.slot_str_join PySem.F.type_str_join Vw ho.pe (cH he.pe dS hs) hbase hfew hline hs hplain,λC H B σ δ n Q Q' R q k=>ho.sd C H B σ δ n _ _ R q λv x H1 n1 R1 k1 r1 q1=>by
  split at q1
  ·rename_i z;cases(show RdX H1 B v (.str z)from r1);refine⟨rfl,he.sd C H1 B σ δ n1 _ _ R1 q1 λu y H2 n2 R2 k2 r2 q2=>?_⟩
   split at q2
   ·rename_i ds
    split at q2
    ·rename_i ys ey;cases(show RdX H2 B u (.list ds)from r2)with
     |@lst ay vs _ e1 e2 e3 e4=>
      have:=qL e4 ey;subst this;exact⟨z,ay,ys,rfl,rfl,.inl (SqL.of e1),q2.1,k _ _ H2 n2 R2 (k1.trans k2) (wd (show RdX H2 B _ (.str _)from .str _ (PySem.joinOk_length (PyProof.Rows.joinOk_of q2.1)))) q2.2⟩
    ·exact q2.elim
   ·rename_i ds
    split at q2
    ·rename_i ys ey;cases(show RdX H2 B u (.tuple ds)from r2)with
     |@tup ay vs _ e1 e2 e3 e4=>
      have:=qL e4 ey;subst this;exact⟨z,ay,ys,rfl,rfl,.inr (SqT.of e1),q2.1,k _ _ H2 n2 R2 (k1.trans k2) (wd (show RdX H2 B _ (.str _)from .str _ (PySem.joinOk_length (PyProof.Rows.joinOk_of q2.1)))) q2.2⟩
    ·exact q2.elim
   ·exact q2.elim
  ·exact q1.elim⟩
def hV(i:Nat)(wj w:DT):aL:=λδ n K=>match δ[i]? with
 |some (ae (.own ds))=>w δ n λx n1=>wj δ n1 λj n2=>match x,j with
  |.d d,.d (.int k)=>match iJ ds.length k with
   |some m=>K.nx (δ.set i (ae (.own (ds.set m d)))) n2
   |none=>False
  |_,_=>False
 |_=>False
theorem Uw{xp sp:Pos}(hN:X.N[i]?=ae x)(hj:DE X j tj wj)(he:DE X e te we)(hv:gT X.env.scope x:=by first|exact Dr rfl|exact Cw (Dr rfl)|exact Cw (Cw rfl))(hd:(x==("__debug__":Str))=ai:=by decide)
  (hcd:(x==("__classdict__":Str))=ai:=by decide)
  (ha:∀v,assign (.Subscript (.Name x xp) j sp) X.env v=(do
   let ov <-holding [v] (eval (.Name x xp) X.env)
   let iv <-holding [v,ov] (eval j X.env)
   standAt sp
   holding [v,ov,iv] (setItem ov iv v)
   release [v,ov,iv] []):=by intro _;rfl)
  (hs:swapsWithSole [.Subscript (.Name x xp) j sp] e pos.line X.env=pure ai:=by rfl) (hw:swappedStores [.Subscript (.Name x xp) j sp] e X.env=pure af:=by rfl)
  (h1:(Ee [.Subscript (.Name x xp) j sp] X.env).map (·.2)=[assign (.Subscript (.Name x xp) j sp) X.env]:=by rfl):
  DS X (.Assign [.Subscript (.Name x xp) j sp] e pos) (c9 te (pz (b9 i) tj Ja)) (hV i wj we):=
 ⟨ou he.pe (ua (jw hN hv hd hcd) hj.pe r8 ha) hs hw h1,λC H B σ δ n K D R q E=>by
  unfold hV at q
  split at q
  ·rename_i ds ei;refine he.sd C H B σ δ n _ _ R q λu y H1 n1 R1 k1 r1 q1=>?_;obtain⟨v,hv,a,xs,rfl,e2,e3,e4,e5,e6⟩:=R1.sl i _ ei;refine⟨_,hv,hj.sd C H1 B σ δ n1 _ _ R1 q1 λw z H2 n2 R2 k2 r2 q2=>?_⟩
   split at q2
   ·rename_i d k
    split at q2
    ·rename_i m em;cases(show RdX H2 B w (.int k)from r2);have hat:a≠C.t:=λz=>R.t0 (z▸e4);have e2':=k2 _ _ e2 hat;have r1':RdX H2 B u d:=r1.kp k2 R1.bt;refine⟨a,xs,k,m,rfl,rfl,e2',by rw[e6.len];exact em,?_⟩;refine E.nx _ _ _ _ _ (R2.mutOwn ei rfl hv e3 e4 ?_ rfl) q2;refine⟨a,xs.set m u,rfl,bL,e3,e4,by rw[Dt];exact e5,?_⟩;refine RdXs.keep (λb o e n=>?_) (RdXs.set m (e6.kp k2 R1.bt) r1');rw[bc λ(z:b=a)=>n (z▸e3)];exact e
    ·exact q2.elim
   ·exact q2.elim
  ·exact q.elim⟩
end
structure Has(P:Bs)(w:B5)(K:Ag)(mg:Str->Option Aj)(base:Heap)(k:Nat)(x:Str)(ps:List Str)(S:bx):Prop where
 ex:∃(f:Addr)(fd:C1),FnOk P w K mg base dy k f fd ps (eM S)/\Binds K fd ps []/\mg x=ae (.ref f)/\C2 K (.ref f)=ah
section
variable{P:Bs}{w:B5}{K:Ag}{mg:Str->Option Aj}{base:Heap}
theorem Has.mk'(F:Fun K x qual st f fd)(m:mg x=ae (.ref f))(b:Binds K fd ps [])(h:FnOk P w K mg base dy k f fd ps (eM S)):Has P w K mg base k x ps S:=⟨f,fd,h,b,m,F.kp⟩
end
theorem Uc{pos p:Pos}(h:Has X.prog X.w X.K X.mg X.base k x ps S)(hr:Room k X.A)(hg:Gl X x)
  (ha:DA X (e::es) tR wR) (hdb:(x==("__debug__":Str))=ai:=by decide) (he:A8 (e::es) X.env=(ai,eval e X.env)::A8 es X.env:=by rfl) (hpl:(Df pos (A8 es X.env)).any (·.1)=ai:=by rfl):
  DE X (.Call (.Name x p) (e::es) [] pos) (iC (eM S) [] E0 tR) (az S wR):=by
 obtain⟨f,fd,h1,h2,h3,h4⟩:=h.ex;exact SR h1 hr hg h3 h4 h2 ha hdb he hpl
theorem Pp{cl cells:List (Str×Addr)}(h:∀y∈cl,cells.lookup y.1=ae y.2):∀x c,cl.lookup x=ae c->cells.lookup x=ae c:=λx c e=>h _ (tI e)
def cU:bx:=λws n Q=>match ws with
 |[.tp,.d (.int many)]=>(n < 2 ^ 40/\0 < many/\many < 1073741824)/\∀r:Int,0<=r->r < many->Q (.d (.int r)) (n+1)
 |_=>False
section
variable{P:Bs}{w:B5}{K:Ag}{mg:Str->Option Aj}{base:Heap}
theorem XW(h:FnOk P w K mg base dy k f fd ps HJ):FnOk P w K mg base dy k f fd ps (eM cU):=h.imp λvs H Q E hs=>by
 obtain⟨t,l,ns,B,ws,n,Q0,T,bt,ba,r,q,kk⟩:=hs;unfold cU at q
 split at q
 ·rename_i many;cases r with
  |cons r1 r2=>
   cases r2 with
   |cons r3 r4=>
    cases r4;cases(show _=V.ref t from r1);cases(show RdX H B _ (.int many)from r3);exact⟨t,l,ns,n,many,rfl,T,q.1.1,q.1.2.1,q.1.2.2,λr H' h0 h1 T' k'=>kk _ _ (q.2 r h0 h1) _ H' T' k' (.int r)⟩
 ·exact q.elim
def spLaw(K:Ag):Sp:=λvs H Q _=>∃(a:Addr)(ns:List Int),vs=[.ref a]/\SqL K H a (ns.map V.int)/\ns.length<=63/\∀H',Q (.bl ah) H'
def pD:DEnds:={ nx:=λ_ _=>False,rt:=λw _=>w=.d (.bool ah)}
theorem Nc{a:V}(T:Tp H t l ns 0):Rel ⟨t,l,ns,H,λb=>b=t,λ_=>af⟩ H (λb=>b=t) (ae a::ae (.ref t)::C0 k af) (af::ae (.w .tp)::C0 k af) 0 where
 tp:=T
 kp:=Kp.refl _ _
 t0:=by
  obtain⟨_,_,h,_⟩:=T.ob;show H t≠af;rw[h];exact λz=>nomatch z
 l0:=by
  show H l.s≠af;rw[T.ls];exact λz=>nomatch z
 g0:=λe=>by
  show H l.g≠af;rw[T.ag e];exact λz=>nomatch z
 fz:=λb o e=>nomatch e
 bt:=rfl
 b0:=λ_ z=>z
 ba:=λb z=>by
  obtain⟨_,_,h,_⟩:=T.ob;rw[z,h];exact λz=>nomatch z
 a0:=λb z=>by
  obtain⟨_,_,h,_⟩:=T.ob;show H b≠af;rw[show b=t from z,h];exact λz=>nomatch z
 sl:=λi x e=>by
  rcases i with _|_|i
  ·cases e
  ·cases e;exact⟨_,rfl,rfl,λz=>by cases z⟩
  ·have e':(C0 k (af:Option SV))[i]?=ae (ae x):=e;rw[D9]at e'
   split at e'
   ·cases e'
   ·cases e'
 ow:=λi j x y v e1 e2 o1 o2 f1 f2=>by
  rcases i with _|_|i
  ·cases e1
  ·cases e1;cases o1
  ·have e':(C0 k (af:Option SV))[i]?=ae (ae x):=e1;rw[D9]at e'
   split at e'
   ·cases e'
   ·cases e'
 len:=by simp
theorem LO(F:Fun K "law" "law" st f fd)(Sc:FnScope N ["_law_script"] (dh st))
  (GT:FnOk P w K mg base dy 1 fT fdT ["_law_script"] (p7 K)) (bT:Binds K fdT ["_law_script"] []) (mT:mg "_law_tape"=ae (.ref fT)) (kT:C2 K (.ref fT)=ah)
  (hN:∀v,start N [v]=ae v::af::C0 (N.length-2) af)
  (hW:W (af::ae (.w .tp)::C0 (N.length-2) af) 0 pD)
  (hbody:∀(cdv:Aj)(A:Cj)(outer:List Env)(s:Ao)(H:Hp)(E:XK),Room k (A.deeper (D2 "law" (dh st) s.heap.objs.size f cdv))->
   ∃s0 rest T,gB st=s0::rest/\PS (dM dy P w K mg base N "law" (dh st) f cdv A outer s H E).nox s0 (c9 (iC (p7 K) [] E0 (cK (b9 0) bF)) (fB 1))/\DSs (dM dy P w K mg base N "law" (dh st) f cdv A outer s H E).nox rest T W):
  FnOk P w K mg base dy (k+1) f fd ["_law_script"] (spLaw K):=by
 refine F.ok Sc (λvs H Q E h=>?_) (λcdv A outer s H vs Q E hr h=>?_)
 ·obtain⟨a,ns,rfl,_⟩:=h;rfl
 ·obtain⟨a,ns,rfl,hS,hl,kk⟩:=h;obtain⟨s0,rest,T,e,p0,d⟩:=hbody cdv A outer s H E hr;rw[e];refine⟨_,gh p0 d.ps,?_⟩;rw[hN];refine⟨_,rfl,a,ns,rfl,hS,hl,λt l H1 T1 _=>?_⟩;refine d.sd ⟨t,l,ns,H1,λb=>b=t,λ_=>af⟩ H1 (λb=>b=t) _ _ 0 pD _ (Nc (a:=.ref a) (k:=N.length-2) T1) hW ⟨?_,?_,?_,?_,λ_ _ _ _ _ _ _ _ _ _ _ _ _ z=>z.elim⟩
  ·exact λ_ _ _ _ _ _ z=>z.elim
  ·intro H B σ δ n v w R r z;have z:w=.d (.bool ah):=z;subst z;cases(show RdX H B v (.bool ah)from r);exact kk H
  ·exact λ_ _ _ _ _ _ z=>z.elim
  ·exact λ_ _ _ _ _ _ z=>z.elim
end
end DL
local macro_rules|`(⇑$n:num)=>`(DL.wC (.int $n))
local macro_rules|`(↥$n:num)=>`(DL.aj $n)
local macro_rules|`(tactic|ac_rfl)=>`(tactic|dsimp only[DL.aG])
local macro_rules|`(tactic|ac_nf)=>`(tactic|dsimp only[Aw])
local macro_rules|`(‹$x›)=>`(.d (.tuple $x))
local macro_rules|`(~~~$x)=>`(.d (.int $x))
local macro_rules|`(tactic|grind)=>`(tactic|rw[if_pos rfl])
local macro_rules|`(tactic|nofun)=>`(tactic|dsimp only[DL.aF,Aw])
namespace Nb
open PySem L2 DL
def aI(g:Aa->Bool):bx:=λws n Q=>match ws with
 |[.d d]=>Q (.d (.bool (g d))) n
 |_=>False
theorem dX(h:aI g ws n Q):ws.length=1:=by
 unfold aI at h
 split at h
 ·rfl
 ·exact h.elim
def ie(c:Nat):Bool:=!decide ([c] < ("a":Str).cps.toList)&&!decide (("z":Str).cps.toList < [c])
def aO(k:Int):Aa->Bool
 |.str x=>decide ((1:Int)<=(x.length:Int))&&(decide ((x.length:Int)<=k)&&x.cps.toList.all ie)
 |_=>ai
def lT:bx:=λws n Q=>match ws with
 |[.d d,.d (.int k)]=>Q (.d (.bool (aO k d))) n
 |_=>False
def jk:Aa->Bool
 |.int _=>ah
 |_=>ai
def ot(lo hi:Int):Aa->Bool
 |.int i=>decide (lo<=i)&&decide (i<=hi)
 |_=>ai
abbrev jh:Aa->Bool:=ot 0 99
def ck(d:Aa):Bool:=aO 8 d || jh d
def eB:Aa->Bool
 |.tuple ds=>decide ((1:Int)<=(ds.length:Int))&&(decide ((ds.length:Int)<=4)&&ds.all ck)
 |_=>ai
def cj(d:Aa):Bool:=dU d || ot 1 20 d
def iz:Aa->Bool
 |.tuple [a,b]=>eB a&&cj b
 |_=>ai
theorem kI{rest:Sl}(P:Aa->Prop)(f)(h:∀d n Q',P d->Q' (.d (f d)) n->w (↑d::rest) n Q'):∀(items acc:List Aa)(x:Option SV)(n:Int),(∀d∈items,P d)->Q (acc++items.map f) n->cM (aF 0) aQ w Q items acc (x::rest) n
 |[],acc,x,n,hP,q=>by
  rw[Bo,A5]at q;exact q
 |d::r,acc,x,n,hP,q=>by
  simp only[cM,aF,aQ,if_true,Br];refine h d n _ (hP d Ae) ?_;refine kI P f h r (acc++[f d]) _ n (λe he=>hP e (Af _ he)) ?_;rw[A9];exact q
theorem uy{rest:Sl}(P:Aa->Prop)(p)(f)(hp:∀d n Q',P d->Q' (p d) n->c (↑d::rest) n Q')(h:∀d n Q',P d->Q' (.d (f d)) n->w (↑d::rest) n Q'):
  ∀(items acc:List Aa)(x:Option SV)(n:Int),(∀d∈items,P d)->Q (acc++(items.filter p).map f) n->cM (aF 0) c w Q items acc (x::rest) n
 |[],acc,x,n,hP,q=>by
  rw[List.filter_nil,Bo,A5]at q;exact q
 |d::r,acc,x,n,hP,q=>by
  simp only[cM,aF,Br];refine hp d n _ (hP d Ae) ?_;cases e:p d with
  |true=>
   grind;refine h d n _ (hP d Ae) ?_;refine uy P p f hp h r (acc++[f d]) _ n (λe he=>hP e (Af _ he)) ?_;rw[List.filter_cons_of_pos e]at q;rw[A9];exact q
  |false=>
   rw[if_neg Al];refine uy P p f hp h r acc _ n (λe he=>hP e (Af _ he)) ?_;rw[List.filter_cons_of_neg (by rw[e];exact Al)]at q;exact q
def lJ(d:Aa):Prop:=∃c:Nat,d=.str ⟨#[c]⟩
theorem Lk(x):∀d∈ig x,lJ d:=λd hd=>by
 obtain⟨c,_,rfl⟩:=Bi.mp hd;exact⟨c,rfl⟩
def okD:Aa->Bool
 |.str y=>!decide (y.cps.toList < ("a":Str).cps.toList)&&!decide (("z":Str).cps.toList < y.cps.toList)
 |_=>ai
theorem Yh(x:Str):(ig x).all okD=x.cps.toList.all ie:=by
 unfold ig;rw[Ep];rfl
theorem mh{α:Type}(f):∀l:List α,fe (l.map λa=>.bool (f a))=ae (l.map f)
 |[]=>rfl
 |a::r=>by
  show(fe (r.map λa=>.bool (f a))).map _=_;rw[mh f r];rfl
theorem pK{α:Type}(f)(l:List α):(l.map f).all id=l.all f:=by
 rw[Ep];rfl
theorem yo{r:Int}(h0:0<=r)(h1:r < xs.length):∃v,cF xs r=ae v/\v∈xs:=by
 obtain⟨j,rfl⟩:=Int.eq_ofNat_of_zero_le h0;have hj:j < xs.length:=by omega
 exact⟨xs[j],fX (Ar hj),F1 hj⟩
theorem gx(d):fq "int" d=match d with|.int _=>ah|.bool _=>ah|_=>ai:=by cases d<;>rfl
theorem gs(d):fq "bool" d=match d with|.bool _=>ah|_=>ai:=by cases d<;>rfl
theorem gf(d):fq "str" d=match d with|.str _=>ah|_=>ai:=by cases d<;>rfl
theorem fS(d):fq "tuple" d=match d with|.tuple _=>ah|_=>ai:=by cases d<;>rfl
theorem f9(d):fq "list" d=match d with|.list _=>ah|_=>ai:=by cases d<;>rfl
theorem dY{W:aL}(h:∀d n K,K.rt (.d (.bool (g d))) n->W (cz N [.d d]) n K):∀ws n Q,aI g ws n Q->W (cz N ws) n {nx:=λ_ n=>Q (.d .none) n,rt:=Q}:=λws n Q q=>by
 unfold aI at q
 split at q
 ·exact h _ n _ q
 ·exact q.elim
theorem ku{A B:Prop}(h1:b=ah->A)(h2:b=ai->B):if b=ah then A else B:=by
 cases b with
 |true=>grind;exact h1 rfl
 |false=>rw[if_neg Al];exact h2 rfl
end Nb
namespace DL
open PySem L2 Nb
section
variable{X:Cx}{tg a b c e:Expr}{ta tb tc te:TE}{wa wb wc we:DT}{pos p:Pos}{K:Ag}
theorem P4(ha:DE X a ta wa)(hb:DE X b tb wb)(hK:X.K=K:=by rfl):DE X (.BinOp a .Add b pos) (d3 (mJ K) ta tb) (w2 wa wb de):=by subst hK;exact Ph ha hb
theorem uz(ha:DE X a ta wa)(hb:DE X b tb wb)(hK:X.K=K:=by rfl)(hs:nz b:=by exact λ_ _=>rfl):DE X (.Subscript a b pos) (d3 (jD K) ta tb) (w2 wa wb aD):=by subst hK;exact uZ ha hb hs
def zQ(K:Ag)(T:String):List V->Hp->VK->Prop:=λxs H Q=>∃x t b,xs=[x,.ty T]/\TyOf K H x t/\PySem.W.kitOne K t (.type T)=ae b/\Q (.bl b) H
theorem Ni{p p2:Pos}(hT:T="int"\/T="bool"\/T="str"\/T="tuple"\/T="list")(hg:Gl X "isinstance")(hm:X.mg "isinstance"=af)(hg2:Gl X x)(hm2:X.mg x=af)(hv:Cf x=ae (.type T))(ha:DE X a ta wa)(hK:X.K=K:=by rfl)(hn:x≠"__name__":=by decide)(hdb:(x==("__debug__":Str))=ai:=by decide)
  (he:A8 [a,.Name x p2] X.env=(ai,eval a X.env)::A8 [.Name x p2] X.env:=by rfl) (he2:A8 [.Name x p2] X.env=(ai,eval (.Name x p2) X.env)::A8 [] X.env:=by rfl) (hpl:(Df pos (A8 [.Name x p2] X.env)).any (·.1)=ai:=by rfl):
  DE X (.Call (.Name "isinstance" p) [a,.Name x p2] [] pos) (i6 (zQ K T) (cK ta (cK (tC (.ty T)) bF))) (bq T wa):=by subst hK;exact U4 hT hg hm hg2 hm2 hv ha hn hdb he he2 hpl
def lF(K:Ag):R2:=λx y H Q=>tY x y H Q\/ug x y H Q\/t7 K x y H Q
theorem xj(hu:X.A.units < cLine)(hK:X.K=K:=by rfl):OpR X (B4 .Eq) (lF K):=by subst hK;exact OJ hu
theorem xc:bC (lF K) bA:=Tq
theorem oP(hK:X.K=K:=by rfl):OpR X (B4 .In) (kj K ai):=by subst hK;exact RS
theorem ER(hK:X.K=K:=by rfl):OpR X (B4 .NotIn) (kj K ah):=by subst hK;exact Xr
def w4(K:Ag):List V->Hp->VK->Prop:=λxs H Q=>(∃z,xs=[.str z]/\z.length<=A6/\Q (.int z.length) H)\/∃p ys,xs=[.ref p]/\(SqL K H p ys\/SqT K H p ys)/\Q (.int ys.length) H
theorem DH(hK:X.K=K:=by rfl):CallR X (.builtin "len") (w4 K):=by subst hK;exact WC
theorem KI:dw (w4 K) aP:=Oz
def uA(K:Ag):List V->Hp->VK->Prop:=λxs H Q=>∃p ys,xs=[.ref p]/\((SqL K H p ys/\∀l,H l=af->Q (.ref l) (upd H l (.tup ys)))\/(SqT K H p ys/\Q (.ref p) H))
theorem II(hK:X.K=K:=by rfl):CallR X (.type "tuple") (uA K):=by subst hK;exact Oy
theorem HR:dw (uA K) gD:=O7
def rG(K:Ag):List V->Hp->VK->Prop:=λxs H Q=>∃p ys,xs=[.ref p]/\(SqL K H p ys\/SqT K H p ys)/\∀l,H l=af->Q (.ref l) (upd H l (.lst ys))
theorem uS(hK:X.K=K:=by rfl):CallR X (.type "list") (rG K):=by subst hK;exact Px
theorem GR:dw (rG K) mf:=VJ
theorem WZ(ha:DE X a ta wa)(hK:X.K=K:=by rfl):DI X tg a (AW K ta) (eY wa):=by subst hK;exact LW ha
theorem S4(ha:DE X a ta wa)(hK:X.K=K:=by rfl):DI X tg a (mr K ta) (bN wa):=by subst hK;exact LM ha
theorem Mv{ap cp:Pos}(ho:DE X o to wo)(he:DE X e te we)(hK:X.K=K:=by rfl)
  (hbase:E6 o "join" X.env (eval o X.env)=eval o X.env:=by rfl)
  (hfew:((Df cp (A8 [e] X.env)).all (λx=>!x.1)&&(backToKw cp (F7 [] X.env)).all (λx=>x.1.isSome)
   && decide ([e].length+([]:List Fb).length+(if ([]:List Fb).isEmpty then 0 else 1) < 30))=ah:=by rfl)
  (hline:(ap.endLine==cp.line)=ah:=by rfl) (hs:A8 [e] X.env=[(ai,eval e X.env)]:=by rfl) (hplain:(Df cp (A8 [] X.env)).any (·.1)=ai:=by rfl):
  DE X (.Call (.Attribute o "join" ap) [e] [] cp) (jB K "str" (xE K) to (cK te bF)) (fY wo we):=by subst hK;exact U1 ho he hbase hfew hline hs hplain
theorem IX{k:Nat}{n:Nat}(h:DGs X es t r)(hc:X.calm=ah:=by rfl)(hK:X.K=K:=by rfl)
  (hn:(Ee es X.env).length=n:=by rfl) (hst:(Ee es X.env).findIdx? (·.1)=af:=by rfl):DG X (.Tuple es k pos) (jd K n t) (cR n r):=by subst hK;exact Ux h hc hn hst
end
end DL
namespace L2
open PySem PySem.Spec PyProof.Rows
theorem FR{cpos pos pos':Pos}
  (hN:X.N.Nodup) (hix:X.N[i]?=ae x) (hx:X.env.scope.names.lookup x=ae .local)
  (hc:X.calm=ah) (S:CompSc X N scope cl fr) (hi:PI X tg iter wi) (hg:∀s H fp,PG (dj X N scope cl s H fp) tg g) (ht:∀s H fp,qC (dj X N scope cl s H fp) ifs tt)
  (he:∀s H fp,PE (dj X N scope cl s H fp) elt te) (hs:∀x,Ex iter X.env x=pure x:=by intro _;rfl)
  (hsw:Fw (.ListComp elt [⟨tg,iter,ifs,0⟩] scope cpos) (ae (.Name x pos')) pos.line X.env=pure ah:=by rfl):
  PS X (.Assign [.Name x pos'] (.ListComp elt [⟨tg,iter,ifs,0⟩] scope cpos) pos) (c9 (pd fr wi g tt te) (fB i)):=by
 intro pins s σ H D I h;rw[exec_Assign_Name_used _ _ _ _ hsw];refine Ad (wpAny_standAt (Ad ?_));show Bd _ _ (do let _ <-comprehension (.ListComp elt [⟨tg,iter,ifs,0⟩] scope cpos) scope X.env (firstIterPos [⟨tg,iter,ifs,0⟩] cpos) (newList []) (firstAsync [⟨tg,iter,ifs,0⟩]) (firstIter [⟨tg,iter,ifs,0⟩] X.env) (ae (assign (.Name x pos') X.env))) _ _ s;refine Ad ?_;have fin:∀(u:Unit)(s':Ao),SP X pins D .next s'->Bd (Bn X.prog X.w) X.A (pure Flow.next) (SP X pins D) X.xe s':=λ_ s' z=>Ap z
 refine bh (Q:=λ_ s'=>SP X pins D .next s') ?_ λ_ s' z=>Ap (Ap z);refine wpAny_comprehension_free (use:=ae (assign (.Name x pos') X.env)) (cl:=cl) rfl hs S.clos S.kind S.names (bh (hi pins s σ H _ I h) λv s1 h1=>bh h1 λitv s2 h2=>?_);obtain⟨it,fp,tn,J,H2,e,I2,T,st2,f2,q⟩:=h2;subst e;refine Cc (wpAny_newFunctionEnv S.nocell (by intro y hy;simp at hy) (λh₁ hn hsb=>?_) S.kind);dsimp only at hn hsb ⊢;obtain⟨W,⟨m0,w0⟩,turn⟩:=q s2.heap.objs.size I2.fresh
 have I3:Inv X pins σ (upd H2 s2.heap.objs.size (.lst [])) {s2 with heap:=s2.heap.push {cls:=.type "list",dict:=af,data:=.seq ([]:List Aj).toArray}}:=I2.lnew (its:=[]) (t':=s2.toks) .nil (Bf _);have key:∀s3:Ao,s3={ s2 with heap:=s2.heap.push {cls:=.type "list",dict:=af,data:=.seq ([]:List Aj).toArray}}->Inv X pins σ (upd H2 s2.heap.objs.size (.lst [])) s3->
   ∀(ob:Obj)(mm:Str->Option Aj),Dj s3.heap.objs.size (s3.heap.push ob) h₁->h₁.Ns s3.heap.objs.size mm->
   Gs (Bn X.prog X.w) X.A (.compStart (.ListComp elt [⟨tg,iter,ifs,0⟩] scope cpos) 0 (.ref it) (.ref s2.heap.objs.size) (compEnvC scope cl s3.heap.objs.size X.env))
    (compPost (Bn X.prog X.w) X.A X.xe (ae (assign (.Name x pos') X.env)) (λ_ s'=>SP X pins D .next s') (.ref s2.heap.objs.size) s3.heap.objs.size) {s3 with heap:=h₁,toks:=s3.toks+([]:List (Str×Aj)).length}:=?key
 ·exact key _ rfl I3 _ _ hsb hn
 clear I3 hn hsb;intro s3 hs3 I3 ob mm hsb hn;have hfp:∀b∈fp,∃o,s2.heap.get? b=ae o:=λb hb=>let⟨o,e,_⟩:=T.obj _ _ st2 b hb;⟨o,e⟩;have up:∀b o,s2.heap.get? b=ae o->s3.heap.get? b=ae o:=λb o e=>by rw[hs3];exact Ai _ e
 have f3:∀b∈fp,du X pins (upd H2 s2.heap.objs.size (.lst [])) b:=λb hb=>by
  obtain⟨o,e⟩:=hfp b hb;obtain⟨g0,gr⟩:=f2 b hb;exact⟨by rw[bc (Bq (A0 e))];exact g0,gr⟩
 have hlt:∀b∈fp,b < s3.heap.objs.size:=λb hb=>let⟨o,e⟩:=hfp b hb;A0 (up b o e);generalize hH3:upd H2 s2.heap.objs.size (.lst [])=H3 at I3 f3 w0;have I4:=CO (t':=s3.toks+([]:List (Str×Aj)).length) S I3 f3 hlt hsb hn;have st4:tn 0 h₁:=T.keep _ _ _ st2 λb hb o e=>(hsb.2 b (Bq (A0 (up b o e)))).trans (Ai _ (up b o e));have stat:∀{H':Hp},(∀b∈fp,H' b=af)->∀b∈fp,du (dj X N scope cl s3 H3 fp) [] H' b:=λhn b hb=>by
  obtain⟨_,k1,k2,k3,k4,k5⟩:=f3 b hb;refine⟨hn b hb,Bq (hlt b hb),λz=>?_,.inl hb,λx c e=>k4 x c (S.sub x c e),λp hp=>absurd hp (by simp[dj])⟩;rcases Aq.mp (I3.stkSub b z)with e|e
  ·exact k1 e
  ·exact k2 e
 have loop:Gs (Bn X.prog X.w) X.A (.compLoop (.ListComp elt [⟨tg,iter,ifs,0⟩] scope cpos) 0 (.ref it) (.ref s2.heap.objs.size) (compEnvC scope cl s3.heap.objs.size X.env))
   (compPost (Bn X.prog X.w) X.A X.xe (ae (assign (.Name x pos') X.env)) (λ_ s'=>SP X pins D .next s') (.ref s2.heap.objs.size) s3.heap.objs.size) {s3 with heap:=h₁,toks:=s3.toks+([]:List (Str×Aj)).length}:=by
  refine EI (λn s'=>∃i ys τ Hc,Inv (dj X N scope cl s3 H3 fp) [] τ Hc s'/\tn i s'.heap/\(∀b∈fp,Hc b=af)/\W i n ys τ Hc) ?_ m0 ⟨0,[],d8 fr σ,H3,I4,st4,λb hb=>(f3 b hb).1,w0⟩
  rintro n s5 ⟨i,ys,τ,Hc,I5,st5,fr5,w5⟩
  rcases turn i n ys τ Hc w5 with⟨stop,qn⟩|⟨go,hz,step⟩
  ·refine bh (T.done (dj X N scope cl s3 H3 fp) rfl rfl rfl hc i [] s5 τ Hc (λ_ _=>False) I5 (stat fr5) st5 stop) λr s6 ⟨hr,I6⟩=>?_;subst hr;obtain⟨mm,hm,_⟩:=I6.loc;have I6x:Inv X pins σ Hc s6:=FP I3 f3 I6 (Heap.SameBut.refl _ _);have hC:Hc s3.heap.objs.size=af:=I6.free;obtain⟨_,c1,_,c3,c4,c5⟩:=I3.fpOk (H':=Hc) (Ay _) hC;show Bd (Bn X.prog X.w) X.A (assign (.Name x pos') X.env (.ref s2.heap.objs.size)) _ X.xe s6;refine wpAny_assign_Name (Hk I6x hN hix (.inl hx) (show RelV (.ref s2.heap.objs.size) (B8 s2.heap.objs.size)from rfl) (λs7 I7 hsb=>?_) (.inr hx));obtain⟨ad,hsb,had⟩:=hsb;have hne:s3.heap.objs.size≠ad:=by
    rcases had with z|z
    ·rw[z];exact c1
    ·exact λq=>c4 x ad z q.symm
   obtain⟨oo,es,ep,ho,rr⟩:=hm;refine⟨mm,⟨oo,es,ep,(hsb.2 _ hne).trans ho,rr⟩,λh' hs'=>⟨_,Hc,?_,qn⟩⟩;have ne:∀b,b∉[s3.heap.objs.size]->b≠s3.heap.objs.size:=λb z q=>z (by rw[q];exact Au.mpr rfl);have hok':HOk X.prog X.w Hc h':=λb o e=>by
    refine(I7.hok b o e).stay (λc v hc z=>(hs'.2 c ?_).trans z) (λ_ z=>z) λ_ _ z=>z
    rintro rfl
    rcases hc with z|z
    ·rw[<-z,hC]at e;cases e
    ·rw[hC]at z;cases z
   refine I7.call' (s':={ s7 with heap:=h'}) (ch:=[s3.heap.objs.size]) rfl ?_ hok' I7.bare λb hb=>?_
   ·exact⟨λb o e n h1 h2=>(hs'.2 b (ne b h2)).trans e,λb o e n h1 h2=>⟨o.slots,(hs'.2 b (ne b h2)).trans e⟩,λb o e n h2=>n,λb o e h2=>⟨o,(hs'.2 b (ne b h2)).trans e⟩,λ_ _ z=>z,λ_ _ _ z=>z,λb ps z=>⟨#[],by rw[Array.append_empty];exact z⟩⟩
   ·cases Au.mp hb;exact⟨c3,c1,c4,c5⟩
  ·refine bh (T.item (dj X N scope cl s3 H3 fp) rfl rfl rfl hc i [] s5 τ Hc (λ_ _=>False) I5 (stat fr5) st5 go) λr s6 ⟨u,hr,h6⟩=>?_;subst hr;refine bh h6 λ_ s7 ⟨x,H7,I7,r7,y7,st7,fr7⟩=>?_;have I7':=I7.pinned (stat fr7) (T.obj _ _ st7);refine bh (hg s3 H3 fp _ s7 τ H7 x u _ I7' r7 (step x H7 y7)) λ_ s8 ⟨τ8,H8,I8,q8⟩=>?_;refine bh (ht s3 H3 fp _ s8 τ8 H8 _ I8 q8) λok s9 ⟨H9,I9,q9⟩=>?_;have keep:∀{st:Ao}{τ':St}{H':Hp},Inv (dj X N scope cl s3 H3 fp) ([]++mR fp s7.heap) τ' H' st->tn (i+1) st.heap/\∀b∈fp,H' b=af:=λ{st τ' H'} Ix=>by
    refine⟨T.keep _ _ _ st7 λb hb o e=>(Ix.pin (b,o) (Az _ (Az _ (mI hb e)))).1,λb hb=>?_⟩;obtain⟨o,e,d⟩:=T.obj _ _ st7 b hb;exact(Ix.pin (b,o) (Az _ (Az _ (mI hb e)))).2.1
   cases ok with
   |false=>
    rw[if_neg Al]at q9 ⊢;obtain⟨m',hm,w9⟩:=q9;obtain⟨k1,k2⟩:=keep I9;exact⟨m',hm,i+1,ys,τ8,H9,I9.unpinned,k1,k2,w9⟩
   |true=>
    rw[if_pos rfl]at q9 ⊢;refine bh (he s3 H3 fp _ s9 τ8 H9 _ I9 q9) λxv s10 ⟨y,H10,I10,r10,hD,m',hm,w10⟩=>?_;refine bh (rZ _ s10 τ8 H10 (.ref s2.heap.objs.size) [y] (.ref s2.heap.objs.size) [xv] (λz H'=>∃m',m' < n/\W (i+1) m' (ys++[y]) τ8 H') I10 rfl (.cons r10 .nil) ⟨_,ys,y,rfl,rfl,hD,hz,m',hm,w10⟩) λz s11 ⟨z',H11,I11,_,m'',hm',w11⟩=>?_;obtain⟨k1,k2⟩:=keep I11;exact⟨m'',hm',i+1,ys++[y],τ8,H11,I11.unpinned,k1,k2,w11⟩
 exact codeAny_compStart_list loop (T.self _ 0 _ _ _ st4 loop)
end L2
namespace DL
open PySem L2 Nb
section
variable{X:Cx}{elt tg iter:Expr}{ifs:List Expr}{scope:Fl}{cl:List (Str×Addr)}{cpos pos pos':Pos}{N:List Str}{fr:List (Option Nat)}{wi:TI}{v:gG}{g:TG}{gd:eD}{tt:TT}{cc:cI}{te:TE}{we:DT}{i:Nat}{x:Str}
theorem Mo(h:jO t w):iq (c9 t (fB i)) (bD i w):=λC H B σ δ n K D R q E=>
 h C H B σ δ n _ _ R q λa xs ds H1 n1 R1 k1 h0 h1 h2 h3 q1=>by
  refine E.nx _ _ _ _ _ (R.own R1 k1 h0 (by rw[h1];exact λz=>nomatch z) rfl ?_) q1;exact⟨a,xs,rfl,h1,.inr rfl,R.h0 h0,h2,h3⟩
theorem P6(h:fZ t w):iq (c9 t (fB i)) (aT i w):=λC H B σ δ n K D R q E=>
 h C H B σ δ n _ _ R q λv x H1 n1 R1 _ r1 q1=>by
  cases x with
  |d d=>exact E.nx _ _ _ _ _ (R1.set r1 rfl) q1
  |tp=>exact E.nx _ _ _ _ _ (R1.set r1 rfl) q1
  |dk _=>exact q1.elim
  |ln _=>exact q1.elim
  |ob _=>exact E.nx _ _ _ _ _ (R1.set r1 rfl) q1
theorem NA(hN:X.N.Nodup)(hix:X.N[i]?=ae x)(hx:X.env.scope.names.lookup x=ae .local)(hc:X.calm=ah)(S:CompSc X N scope cl fr)(hi:DI X tg iter wi v)(hg:∀s H fp,DG (dj X N scope cl s H fp) tg g gd)(ht:∀s H fp,DIf (dj X N scope cl s H fp) ifs tt cc)
  (he:∀s H fp,DE (dj X N scope cl s H fp) elt te we) (hno:lG gd) (hs:∀x,Ex iter X.env x=pure x:=by intro _;rfl)
  (hsw:Fw (.ListComp elt [⟨tg,iter,ifs,0⟩] scope cpos) (ae (.Name x pos')) pos.line X.env=pure ah:=by rfl):
  DS X (.Assign [.Name x pos'] (.ListComp elt [⟨tg,iter,ifs,0⟩] scope cpos) pos) (c9 (pd fr wi g tt te) (fB i)) (bD i (bB fr v gd cc we)):=
 ⟨FR hN hix hx hc S hi.pi (λs H fp=>(hg s H fp).pg) (λs H fp=>(ht s H fp).pf) (λs H fp=>(he s H fp).pe) hs hsw,Mo (z9 (pos:=cpos) hc S hi hg ht he hno hs).sd⟩
theorem Xf(hN:X.N.Nodup)(hix:X.N[i]?=ae x)(hx:X.env.scope.names.lookup x=ae .local)(hc:X.calm=ah)(S:CompSc X N scope cl fr)(hi:DI X tg iter wi v)(hg:∀s H fp,DG (dj X N scope cl s H fp) tg g gd)(ht:∀s H fp,DIf (dj X N scope cl s H fp) ifs tt cc)
  (he:∀s H fp,DE (dj X N scope cl s H fp) elt te we) (hno:lG gd) (hs:∀x,Ex iter X.env x=pure x:=by intro _;rfl)
  (hsw:Fw (.ListComp elt [⟨tg,iter,ifs,0⟩] scope cpos) (ae (.Name x pos')) pos.line X.env=pure ah:=by rfl):
  DS X (.Assign [.Name x pos'] (.ListComp elt [⟨tg,iter,ifs,0⟩] scope cpos) pos) (c9 (pd fr wi g tt te) (fB i)) (aT i (aV (bB fr v gd cc we))):=
 ⟨FR hN hix hx hc S hi.pi (λs H fp=>(hg s H fp).pg) (λs H fp=>(ht s H fp).pf) (λs H fp=>(he s H fp).pe) hs hsw,P6 (z9 (pos:=cpos) hc S hi hg ht he hno hs).d.sd⟩
end
end DL
namespace KS
open PySem PySem.W PyProof.Rows
def run{α:Type}(c:Nat->Nat->Bool):KasT α->α
 |.ret a=>a
 |.ask i j k=>run c (k (c i j))
theorem m4(c)(f:α->KasT β):∀t:KasT α,run c (t.bind f)=run c (f (run c t))
 |.ret _=>rfl
 |.ask i j k=>m4 c f (k (c i j))
def Wi{α:Type}(n:Nat)(P:α->Prop):KasT α->Prop
 |.ret a=>P a
 |.ask i j k=>i < n/\j < n/\∀b,Wi n P (k b)
theorem Wi.bind{f:α->KasT β}(hf:∀a,P a->Wi n R (f a)):∀{t:KasT α},Wi n P t->Wi n R (t.bind f)
 |.ret a,h=>hf a h
 |.ask i j k,h=>⟨h.1,h.2.1,λb=>Wi.bind hf (h.2.2 b)⟩
theorem Wi.out(c):∀{t:KasT α},Wi n P t->P (run c t)
 |.ret a,h=>h
 |.ask i j k,h=>Wi.out c (t:=k (c i j)) (h.2.2 (c i j))
theorem wp_run{St:Ao->Prop}
  (hc:∀i j C s,i < n->j < n->St s->(∀s',St s'->C (c i j) s')->cmp i j C s):∀(t:KasT α)(s:Ao),Wi n P t->St s->(∀s',St s'->Q (run c t) s')->t.kasWp cmp Q s
 |.ret a,s,_,hs,h=>h s hs
 |.ask i j k,s,w,hs,h=>hc i j _ s w.1 w.2.1 hs λs' hs'=>wp_run hc (k (c i j)) s' (w.2.2 _) hs' h
def Lo(n:Nat)(p:Array Nat):Prop:=∀i,p.getD i 0 < n
theorem kz(p:Array Nat)(i):p.getD i 0=(p[i]?).getD 0:=by simp
theorem SF(hn:0 < n)(h:∀x∈p,x < n):Lo n p:=λi=>by
 rw[kz];cases e:p[i]? with
 |none=>exact hn
 |some x=>exact h x (Array.mem_of_getElem? e)
def Pm(n:Nat)(p:Array Nat):Prop:=p.Perm (Dp (Ce n))
theorem Pm.size(h:Pm n p):p.size=n:=by rw[Array.Perm.size_eq h];simp
theorem Pm.lo(hn:0 < n)(h:Pm n p):Lo n p:=SF hn λx hx=>by
 have:x∈Dp (Ce n):=(Array.Perm.mem_iff h).mp hx;simpa using this
theorem Pm.rev(h:Pm n p)(i j):Pm n (Ew p i j):=(mirror_perm p i j _).trans h
theorem Pm.bub(h:Pm n p)(i j):Pm n (bubble p i j):=(bubble_perm p i j).trans h
section
variable{n:Nat}(hn:0 < n)
include hn
theorem AF(h:Lo n p):∀f m,Wi n (λ_=>True) (kas_asc p f m)
 |0,m=>trivial
 |f+1,m=>⟨h _,h _,λb=>by
  cases b with
  |true=>exact trivial
  |false=>exact AF h f (m+1)⟩
theorem rV:∀f (p:Array Nat) m q,Pm n p->Wi n (λr=>Pm n r.1) (kas_desc f p m q)
 |0,p,m,q,h=>h
 |f+1,p,m,q,h=>⟨h.lo hn _,h.lo hn _,λb=>by
  cases b with
  |true=>
   show Wi n _ (if q > 0 then _ else _)
   split
   ·exact rV f _ _ _ (h.rev _ _)
   ·exact rV f _ _ _ h
  |false=>exact⟨h.lo hn _,h.lo hn _,λd=>by
    cases d with
    |true=>exact h
    |false=>exact rV f _ _ _ h⟩⟩
theorem HQ(m nrem)(h:Pm n p):Wi n (λr=>Pm n r.2) (kas_tail3 m nrem p):=by
 unfold kas_tail3;refine Wi.bind (P:=λ_=>True) (λa _=>?_) (AF hn ((h.rev 0 m).lo hn) _ _);show Pm n (Ew p 0 m);exact h.rev _ _
theorem JG(m nrem)(h:Pm n p):Wi n (λr=>Pm n r.2) (kas_descPart m nrem p):=
 Wi.bind (λr hr=>by
  show Wi n _ (if r.2.2 > 0 then _ else _)
  split
  ·exact HQ hn _ _ (Pm.rev hr _ _)
  ·exact HQ hn _ _ hr) (rV hn _ p _ _ h)
theorem Qz(nrem)(h:Pm n p):Wi n (λr=>Pm n r.2) (kas_count nrem p):=
 Wi.bind (λm _=>by
  show Wi n _ (if (m==nrem)=ah then _ else if m > 1 then _ else _)
  split
  ·exact h
  ·split
   ·exact⟨h.lo hn _,h.lo hn _,λb=>by
     cases b with
     |true=>exact h
     |false=>exact JG hn _ _ (h.rev _ _)⟩
   ·exact JG hn _ _ h) (AF hn (h.lo hn) _ _)
theorem vF(h:Lo n p)(k):∀f l r,Wi n (λ_=>True) (kas_place p k f l r)
 |0,l,r=>trivial
 |f+1,l,r=>by
  show Wi n _ (if l ≥ r then _ else _)
  split
  ·exact trivial
  ·exact⟨h _,h _,λb=>by
    cases b with
    |true=>exact vF h k f _ _
    |false=>exact vF h k f _ _⟩
theorem Hr:∀f (p:Array Nat) k,Pm n p->Wi n (Pm n) (kas_bin f p k)
 |0,p,k,h=>h
 |f+1,p,k,h=>Wi.bind (λl _=>Hr f _ _ (h.bub _ _)) (vF hn (h.lo hn) k _ _ _)
theorem wi_sort:Wi n (Pm n) (kas_sort n):=
 Wi.bind (λr hr=>by
  show Wi n _ (if r.1 < n then _ else _)
  split
  ·exact Hr hn _ _ _ hr
  ·exact hr) (Qz hn n (Array.Perm.refl _))
end
structure Ord(lt:Nat->Nat->Bool):Prop where
 asym:∀i j,lt i j=ah->lt j i=ai
 ltr:∀i j k,lt j i=ai->lt k j=ai->lt k i=ai
section
variable{lt:Nat->Nat->Bool}(O:Ord lt)
def g(p:Array Nat)(i:Nat):Nat:=p.getD i 0
def SP(lt:Nat->Nat->Bool)(p:Array Nat)(n:Nat):Prop:=∀i j,i < j->j < n->lt (g p j) (g p i)=ai
def DP(lt:Nat->Nat->Bool)(p:Array Nat)(n:Nat):Prop:=∀i j,i < j->j < n->lt (g p i) (g p j)=ai
def Sim(lt:Nat->Nat->Bool)(x y:Nat):Prop:=lt x y=ai/\lt y x=ai
include O
theorem jJ(i):lt i i=ai:=by
 cases e:lt i i with
 |false=>rfl
 |true=>exact(O.asym i i e).symm.trans e |>.symm▸rfl
theorem Sim.eq(h1:Sim lt a x)(h2:Sim lt b y):lt a b=lt x y:=by
 cases e:lt x y with
 |false=>exact O.ltr _ _ _ h2.2 (O.ltr _ _ _ e h1.1)
 |true=>
  cases e2:lt a b with
  |true=>rfl
  |false=>
   have:lt x y=ai:=O.ltr _ _ _ h2.1 (O.ltr _ _ _ e2 h1.2);rw[this]at e;cases e
theorem SP.snoc(h:SP lt p n)(h1:1<=n)(e:lt (g p n) (g p (n-1))=ai):SP lt p (n+1):=λi j hij hj=>by
 by_cases q:j < n
 ·exact h i j hij q
 ·have:j=n:=by omega
  subst this;by_cases r:i=j-1
  ·subst r;exact e
  ·exact O.ltr _ _ _ (h i (j-1) ⋯ ⋯) e
theorem w6:∀f n,1<=n->SP lt p n->n<=run lt (kas_asc p f n)/\run lt (kas_asc p f n)<=n+f/\SP lt p (run lt (kas_asc p f n))/\(run lt (kas_asc p f n)=n+f\/lt (g p (run lt (kas_asc p f n))) (g p (run lt (kas_asc p f n)-1))=ah)
 |0,n,h1,h=>⟨Ay _,Ay _,h,.inl rfl⟩
 |f+1,n,h1,h=>by
  have e:run lt (kas_asc p (f+1) n)=run lt (if lt (g p n) (g p (n-1))=ah then .ret n else kas_asc p f (n+1)):=rfl;rw[e];cases q:lt (g p n) (g p (n-1))with
  |true=>exact⟨Ay _,E7 _ _,h,.inr q⟩
  |false=>
   rw[if_neg Al];obtain⟨a1,a2,a3,a4⟩:=w6 f (n+1) ⋯ (SP.snoc O h h1 q);exact⟨by omega,by omega,a3,a4.imp (λz=>by omega) id⟩
omit O
theorem zi(hj:j<=p.size)(k):g (Ew p i j) k=if i<=k/\k < j then g p (i+j-1-k)else g p k:=by
 unfold g Ew;rw[kz,kz,kz,getElem?_mirror hj _ ⋯];by_cases h:i<=k/\k < j
 ·rw[if_pos h];by_cases q:(i<=k/\k < i+(j-i) / 2)\/(j-(j-i) / 2<=k/\k < j)
  ·rw[if_pos q]
  ·rw[if_neg q];have:i+j-1-k=k:=by omega
   rw[this]
 ·rw[if_neg h,if_neg ⋯]
include O
theorem yE(hj:j<=p.size)(h:∀a b,i<=a->a < j->i<=b->b < j->Sim lt (g p a) (g p b))(k):Sim lt (g (Ew p i j) k) (g p k):=by
 rw[zi hj]
 split
 ·rename_i q;exact h _ _ ⋯ ⋯ q.1 q.2
 ·exact⟨jJ O _,jJ O _⟩
theorem DP.sim(h:DP lt p n)(s:∀k,Sim lt (g p' k) (g p k)):DP lt p' n:=λi j hij hj=>(Sim.eq O (s i) (s j)).trans (h i j hij hj)
theorem DP.snoc(h:DP lt p n)(h1:1<=n)(e:lt (g p (n-1)) (g p n)=ai):DP lt p (n+1):=λi j hij hj=>by
 by_cases q:j < n
 ·exact h i j hij q
 ·have:j=n:=by omega
  subst this;by_cases r:i=j-1
  ·subst r;exact e
  ·exact O.ltr _ _ _ e (h i (j-1) ⋯ ⋯)
omit O
def wG(lt:Nat->Nat->Bool)(sz n f:Nat)(r:Array Nat×Nat×Nat):Prop:=
 r.1.size=sz/\n<=r.2.1/\r.2.1<=n+f/\r.2.2+1<=r.2.1/\DP lt r.1 r.2.1/\(∀a b,r.2.1-(r.2.2+1)<=a->a < r.2.1->r.2.1-(r.2.2+1)<=b->b < r.2.1->Sim lt (g r.1 a) (g r.1 b))
def jN(lt:Nat->Nat->Bool)(sz nrem:Nat)(r:Nat×Array Nat):Prop:=r.2.size=sz/\1<=r.1/\r.1<=nrem/\SP lt r.2 r.1
def zt(lt:Nat->Nat->Bool)(p:Array Nat)(k m:Nat):Prop:=m<=k/\(∀i,i < m->lt (g p k) (g p i)=ai)/\(∀i,m<=i->i < k->lt (g p k) (g p i)=ah)
include O
theorem tP:∀f (p:Array Nat) n q,q+1<=n->n+f<=p.size->DP lt p n->(∀a b,n-(q+1)<=a->a < n->n-(q+1)<=b->b < n->Sim lt (g p a) (g p b))->
  wG lt p.size n f (run lt (kas_desc f p n q))
 |0,p,n,q,h1,h2,h3,h4=>⟨rfl,Ay _,Ay _,h1,h3,h4⟩
 |f+1,p,n,q,h1,h2,h3,h4=>by
  have one:∀(p':Array Nat)(m:Nat)(a b:Nat),m+1-(0+1)<=a->a < m+1->m+1-(0+1)<=b->b < m+1->Sim lt (g p' a) (g p' b):=λp' m a b ha ha' hb hb'=>by
   have e1:a=m:=by omega
   have e2:b=m:=by omega
   rw[e1,e2];exact⟨jJ O _,jJ O _⟩
  show wG lt p.size n (f+1) (run lt (if lt (g p n) (g p (n-1))=ah then(if q > 0 then kas_desc f (Ew p (n-(q+1)) n) (n+1) 0 else kas_desc f p (n+1) 0)else .ask (p.getD (n-1) 0) (p.getD n 0) λd=>if d=ah then .ret (p,n,q)else kas_desc f p (n+1) (q+1)));cases c1:lt (g p n) (g p (n-1))with
  |true=>
   grind;by_cases hq:q > 0
   ·rw[if_pos hq];have sim:=yE O (p:=p) (i:=n-(q+1)) (j:=n) ⋯ h4;have hd:DP lt (Ew p (n-(q+1)) n) (n+1):=DP.sim O (DP.snoc O h3 ⋯ (O.asym _ _ c1)) sim;have hs:(Ew p (n-(q+1)) n).size=p.size:=mirror_size _ _ _ _;obtain⟨a1,a2,a3,a4,a5,a6⟩:=tP f (Ew p (n-(q+1)) n) (n+1) 0 ⋯ (by rw[hs];omega) hd (one _ n);exact⟨a1.trans hs,by omega,by omega,a4,a5,a6⟩
   ·rw[if_neg hq];obtain⟨a1,a2,a3,a4,a5,a6⟩:=tP f p (n+1) 0 ⋯ ⋯ (DP.snoc O h3 ⋯ (O.asym _ _ c1)) (one _ n);exact⟨a1,by omega,by omega,a4,a5,a6⟩
  |false=>
   rw[if_neg Al];show wG lt p.size n (f+1) (run lt (if lt (g p (n-1)) (g p n)=ah then .ret (p,n,q)else kas_desc f p (n+1) (q+1)));cases c2:lt (g p (n-1)) (g p n)with
   |true=>exact⟨rfl,Ay _,by show n<=n+(f+1);omega,h1,h3,h4⟩
   |false=>
    rw[if_neg Al];have s1:Sim lt (g p n) (g p (n-1)):=⟨c1,c2⟩;have tr:∀{x y z:Nat},Sim lt x y->Sim lt y z->Sim lt x z:=λh h'=>⟨O.ltr _ _ _ h'.1 h.1,O.ltr _ _ _ h.2 h'.2⟩;obtain⟨a1,a2,a3,a4,a5,a6⟩:=tP f p (n+1) (q+1) ⋯ ⋯ (DP.snoc O h3 ⋯ c2) (λa b ha ha' hb hb'=>by
     have key:∀x,n+1-(q+1+1)<=x->x < n+1->Sim lt (g p x) (g p (n-1)):=λx hx hx'=>by
      by_cases e:x=n
      ·rw[e];exact s1
      ·exact h4 x (n-1) ⋯ ⋯ ⋯ ⋯
     have kb:=key b hb hb';exact tr (key a ha ha') ⟨kb.2,kb.1⟩)
    exact⟨a1,by omega,by omega,a4,a5,a6⟩
theorem Jv(h1:1<=n)(hn:n<=nrem)(hz:nrem<=p.size)(h:DP lt p n):jN lt p.size nrem (run lt (kas_tail3 n nrem p)):=by
 unfold kas_tail3;rw[m4];have hs:(Ew p 0 n).size=p.size:=mirror_size _ _ _ _;have sp:SP lt (Ew p 0 n) n:=λi j hij hj=>by
  rw[zi ⋯,zi ⋯,if_pos ⟨Bf _,hj⟩,if_pos ⟨Bf _,by omega⟩];exact h _ _ ⋯ ⋯
 obtain⟨a1,a2,a3,_⟩:=w6 O (p:=Ew p 0 n) (nrem-n) n h1 sp;exact⟨hs,by show 1<=run lt (kas_asc (Ew p 0 n) (nrem-n) n);omega,by show run lt (kas_asc (Ew p 0 n) (nrem-n) n)<=nrem;omega,a3⟩
theorem FX(h1:1<=n)(hn:n+1<=nrem)(hz:nrem<=p.size)(h:DP lt p (n+1)):jN lt p.size nrem (run lt (kas_descPart n nrem p)):=by
 unfold kas_descPart;rw[m4];obtain⟨a1,a2,a3,a4,a5,a6⟩:=tP O (nrem-(n+1)) p (n+1) 0 ⋯ ⋯ h (λa b ha ha' hb hb'=>by
  have e1:a=n:=by omega
  have e2:b=n:=by omega
  rw[e1,e2];exact⟨jJ O _,jJ O _⟩)
 generalize run lt (kas_desc (nrem-(n+1)) p (n+1) 0)=r at a1 a2 a3 a4 a5 a6;by_cases hq:r.2.2 > 0
 ·rw[if_pos hq];have hs:(Ew r.1 (r.2.1-(r.2.2+1)) r.2.1).size=r.1.size:=mirror_size _ _ _ _;obtain⟨b1,b2⟩:=Jv O (p:=Ew r.1 (r.2.1-(r.2.2+1)) r.2.1) (n:=r.2.1) (nrem:=nrem) ⋯ ⋯ (by rw[hs];omega) (DP.sim O a5 (yE O ⋯ a6));exact⟨b1.trans (hs.trans a1),b2⟩
 ·rw[if_neg hq];obtain⟨b1,b2⟩:=Jv O (p:=r.1) (n:=r.2.1) (nrem:=nrem) ⋯ ⋯ ⋯ a5;exact⟨b1.trans a1,b2⟩
theorem Pf(h1:1<=nrem)(hz:nrem<=p.size):jN lt p.size nrem (run lt (kas_count nrem p)):=by
 unfold kas_count;rw[m4];obtain⟨a1,a2,a3,a4⟩:=w6 O (p:=p) (nrem-1) 1 (Ay _) (λi j hij hj=>by omega);generalize run lt (kas_asc p (nrem-1) 1)=m at a1 a2 a3 a4;by_cases q:(m==nrem)=ah
 ·rw[if_pos q];exact⟨rfl,a1,by show m<=nrem;omega,a3⟩
 ·rw[if_neg q];have hm:m≠nrem:=λz=>q (by rw[z];exact beq_self_eq_true _);have a4:lt (g p m) (g p (m-1))=ah:=a4.resolve_left ⋯;by_cases hm1:m > 1
  ·rw[if_pos hm1];show jN lt p.size nrem (run lt (if lt (g p 0) (g p (m-1))=ah then .ret (m,p)else kas_descPart m nrem (Ew p 0 m)));cases c:lt (g p 0) (g p (m-1))with
   |true=>exact⟨rfl,a1,by show m<=nrem;omega,a3⟩
   |false=>
    rw[if_neg Al];have hs:(Ew p 0 m).size=p.size:=mirror_size _ _ _ _;have up:∀a b,a < m->b < m->lt (g p b) (g p a)=ai:=λa b ha hb=>by
     have le0:lt (g p a) (g p 0)=ai:=by
      by_cases z:a=0
      ·rw[z];exact jJ O _
      ·exact a3 0 a ⋯ ha
     have leb:lt (g p (m-1)) (g p b)=ai:=by
      by_cases z:b=m-1
      ·rw[z];exact jJ O _
      ·exact a3 b (m-1) ⋯ ⋯
     have l1:lt (g p b) (g p 0)=ai:=by
      by_cases z:b=0
      ·rw[z];exact jJ O _
      ·exact a3 0 b ⋯ hb
     have l2:lt (g p 0) (g p a)=ai:=O.ltr _ _ _ (by
      by_cases z:a=m-1
      ·rw[z];exact jJ O _
      ·exact a3 a (m-1) ⋯ ⋯) c
     exact O.ltr _ _ _ l2 l1
    have all:∀a b,0<=a->a < m->0<=b->b < m->Sim lt (g p a) (g p b):=λa b _ ha _ hb=>⟨up b a hb ha,up a b ha hb⟩;have sim:=yE O (p:=p) (i:=0) (j:=m) ⋯ all;have dp:DP lt p (m+1):=DP.snoc O (λi j hij hj=>up j i hj ⋯) a1 (O.asym _ _ a4);obtain⟨b1,b2⟩:=FX O (p:=Ew p 0 m) (n:=m) (nrem:=nrem) a1 ⋯ (by rw[hs];omega) (DP.sim O dp sim);exact⟨b1.trans hs,b2⟩
  ·rw[if_neg hm1];have e:m=1:=by omega
   subst e;exact FX O (p:=p) (Ay _) ⋯ hz (DP.snoc O (λi j hij hj=>by omega) (Ay _) (O.asym _ _ a4))
theorem yv(h:SP lt p k):∀f l r,l<=r->r<=k->r-l<=f->(∀i,i < l->lt (g p k) (g p i)=ai)->(∀i,r<=i->i < k->lt (g p k) (g p i)=ah)->
  zt lt p k (run lt (kas_place p k f l r))
 |0,l,r,hlr,hr,hf,h1,h2=>by
  have e:l=r:=by omega
  subst e;exact⟨hr,h1,h2⟩
 |f+1,l,r,hlr,hr,hf,h1,h2=>by
  show zt lt p k (run lt (if l ≥ r then .ret l else .ask (p.getD k 0) (p.getD ((l+r) / 2) 0) λc=>if c=ah then kas_place p k f l ((l+r) / 2)else kas_place p k f ((l+r) / 2+1) r));by_cases q:l ≥ r
  ·rw[if_pos q];have e:l=r:=by omega
   subst e;exact⟨hr,h1,h2⟩
  ·rw[if_neg q];show zt lt p k (run lt (if lt (g p k) (g p ((l+r) / 2))=ah then kas_place p k f l ((l+r) / 2)else kas_place p k f ((l+r) / 2+1) r));cases c:lt (g p k) (g p ((l+r) / 2))with
   |true=>
    grind;refine yv h f l ((l+r) / 2) ⋯ ⋯ ⋯ h1 λi hi hik=>?_;by_cases e:i=(l+r) / 2
    ·rw[e];exact c
    ·cases z:lt (g p k) (g p i)with
     |true=>rfl
     |false=>
      have:=O.ltr _ _ _ (h ((l+r) / 2) i ⋯ hik) z;rw[this]at c;cases c
   |false=>
    rw[if_neg Al];refine yv h f ((l+r) / 2+1) r ⋯ hr ⋯ (λi hi=>?_) h2;by_cases e:i=(l+r) / 2
    ·rw[e];exact c
    ·exact O.ltr _ _ _ (h i ((l+r) / 2) ⋯ ⋯) c
omit O
theorem JV(hk:k < p.size)(hl:l<=k)(i):g (bubble p k (k-l)) i=if i=l then g p k else if l < i/\i<=k then g p (i-1)else g p i:=by
 unfold g;rw[kz,getElem?_bubble hk _ ⋯,kz,kz,kz];have e:k-(k-l)=l:=by omega
 rw[e];by_cases h1:i=l
 ·rw[if_pos h1,if_pos h1]
 ·rw[if_neg h1,if_neg h1];by_cases h2:l < i/\i<=k
  ·rw[if_pos h2,if_pos h2]
  ·rw[if_neg h2,if_neg h2]
include O
theorem Jz:∀f (p:Array Nat) k,1<=k->k+f<=p.size->SP lt p k->SP lt (run lt (kas_bin f p k)) (k+f)
 |0,p,k,h1,hz,h=>h
 |f+1,p,k,h1,hz,h=>by
  show SP lt (run lt ((kas_place p k k 0 k).bind λl=>kas_bin f (bubble p k (k-l)) (k+1))) (k+(f+1));rw[m4];obtain⟨b1,b2,b3⟩:=yv O h k 0 k (Bf _) (Ay _) ⋯ (λi hi=>by omega) (λi hi hi'=>by omega);generalize run lt (kas_place p k k 0 k)=l at b1 b2 b3;have sp:SP lt (bubble p k (k-l)) (k+1):=λi j hij hj=>by
   rw[JV ⋯ b1,JV ⋯ b1];by_cases e1:j=l
   ·rw[if_pos e1,if_neg ⋯,if_neg ⋯];exact b2 i ⋯
   ·rw[if_neg e1];by_cases e2:l < j/\j<=k
    ·rw[if_pos e2];by_cases e3:i=l
     ·rw[if_pos e3];exact O.asym _ _ (b3 (j-1) ⋯ ⋯)
     ·rw[if_neg e3];by_cases e4:l < i/\i<=k
      ·rw[if_pos e4];exact h (i-1) (j-1) ⋯ ⋯
      ·rw[if_neg e4];exact h i (j-1) ⋯ ⋯
    ·rw[if_neg e2,if_neg ⋯,if_neg ⋯];exact h i j hij ⋯
  have:=Jz f (bubble p k (k-l)) (k+1) ⋯ (by rw[bubble_size];omega) sp;have e:k+1+f=k+(f+1):=by omega
  rwa [e]at this
theorem sort_ok(h1:1<=n):SP lt (run lt (kas_sort n)) n:=by
 unfold kas_sort;rw[m4];obtain⟨a1,a2,a3,a4⟩:=Pf O (p:=Dp (Ce n)) (nrem:=n) h1 (by simp);generalize run lt (kas_count n (Dp (Ce n)))=r at a1 a2 a3 a4;have hs:r.2.size=n:=by rw[a1];simp
 by_cases q:r.1 < n
 ·rw[if_pos q];have e:max r.1 1=r.1:=by omega
  rw[e];have:=Jz O (n-r.1) r.2 r.1 a2 ⋯ a4;have e2:r.1+(n-r.1)=n:=by omega
  rwa [e2]at this
 ·rw[if_neg q];have e:r.1=n:=by omega
  rw[e]at a4;exact a4
end
end KS
namespace KS
open PySem PySem.W PySem.Calls PyProof.Rows
section
variable{prog:Bs}{w:B5}{A:Cj}{E:Aj->Ao->Prop}{s:Ao}{a:Addr}{vs:List Aj}
theorem ls_sort(ho:s.heap.get? a=ae (Dl "list" vs.toArray n))(h2:2<=vs.length)(h64:vs.length < 64)
  (h:∀e1 h',h'.get? a=ae (Dl "list" #[] e1)->(∀b o,b≠a->s.heap.get? b=ae o->h'.get? b=ae o)->
   Bd (Bn prog w) A (keyKind' vs.toArray) (λκ s'=>(kas_sort vs.length).kasWp (kas_ask prog w A κ vs)
    (λp s''=>s''.heap.get? a=ae (Dl "list" #[] e1)/\∀h3 c,Dj a s''.heap h3->h3.get? a=ae (Dl "list" (Dp (p.toList.map λi=>vs.getD i B1)) c)->P (.done (.ret .none)) {s'' with heap:=h3}) s') (λ_ _=>False) {s with heap:=h'}):
  Bd (Bn prog w) A (Ez.«list.sort» ⟨[.ref a],[]⟩) P E s:=by
 have ha:a < s.heap.objs.size:=A0 ho;have s1:=Bv s.heap a (C7 λ_=>(#[]:Array Aj));obtain⟨e1,ho1⟩:∃e1,(s.heap.update a (C7 λ_=>(#[]:Array Aj))).get? a=ae (Dl "list" #[] e1):=⟨_,get?_update_seq ho λ_=>#[]⟩;have ask:=h e1 (((s.heap.update a (C7 λ_=>(#[]:Array Aj))).push (Dl "tuple" vs.toArray 0)).push (Dl "list" #[] 0)) (Ai _ (Ai _ ho1))
  λb o hb e=>Ai _ (Ai _ ((s1.2 b hb).trans e))
 rw[list_sort_plain];refine Ad (listItems_at ho rfl ?_);refine Ad (listUpdate_at ho rfl ?_ (by rw[Bb,Eu];omega) (Bf _));refine Ad (seqEpoch_at ho1 rfl ?_);refine Ad (wpAny_newTuple ?_ (by show vs.length<=_;rw[Eu];omega));refine Ad (wpAny_newList ?_ (Bf _));refine Dv ?_;show Bd (Bn prog w) A _ P E {s with heap:=((s.heap.update a (C7 λ_=>(#[]:Array Aj))).push (Dl "tuple" vs.toArray 0)).push (Dl "list" #[] 0)};dsimp only;have hn2:¬vs.toArray.size < 2:=by rw[Bb];omega
 rw[if_neg hn2,if_neg hn2];refine Ad (Dn ask (λκ s0 hk=>?_) λ_ _ x=>x.elim);refine Ad (Dn (kat_run (Q:=λst' s'=>∃p:Array Nat,p.size=vs.length/\arrOf st'=p.map (kas_item (vs.toArray.zip vs.toArray))/\failedOf st'=af/\s'.heap.get? a=ae (Dl "list" #[] e1)/\∀h3 c,Dj a s'.heap h3->h3.get? a=ae (Dl "list" (Dp (p.toList.map λi=>vs.getD i B1)) c)->P (.done (.ret .none)) {s' with heap:=h3})
  rfl h2 h64 (λp' st' s' a1 a2 a3 a4=>⟨p',a1,a2,a3,a4⟩) hk) ?_ λ_ _ e=>e)
 rintro⟨⟨⟩,st'⟩ s' ⟨p,hp,har,hf,na,k⟩
 dsimp only;have hout:=kat_snds rfl har;have hsz:(Dp (p.toList.map λi=>vs.getD i B1)).size=vs.length:=by rw[Bb,Ab,C5,hp]
 rw[hout];have s2:=Bv s'.heap a (C7 λ_=>Dp (p.toList.map λi=>vs.getD i B1));obtain⟨c2,hc2⟩:∃c2,(s'.heap.update a (C7 λ_=>Dp (p.toList.map λi=>vs.getD i B1))).get? a=ae (Dl "list" (Dp (p.toList.map λi=>vs.getD i B1)) c2):=⟨_,get?_update_seq na λ_=>Dp (p.toList.map λi=>vs.getD i B1)⟩;refine Ad (seqEpoch_at na rfl ?_);refine Ad (listUpdate_at na rfl ?_ (Bf _) (A4 (Nat.le_of_eq hsz) (by rw[Eu];omega)));rw[hf];simp only[bne_self_eq_false,Cb,if_false];exact Ap (k _ c2 s2 hc2)
theorem ls_short(ho:s.heap.get? a=ae (Dl "list" vs.toArray n))(h2:vs.length < 2)
  (h:∀h' c,h'.get? a=ae (Dl "list" vs.toArray c)->(∀b o,b≠a->s.heap.get? b=ae o->h'.get? b=ae o)->P (.done (.ret .none)) {s with heap:=h'}):
  Bd (Bn prog w) A (Ez.«list.sort» ⟨[.ref a],[]⟩) P E s:=by
 have ha:a < s.heap.objs.size:=A0 ho;have s1:=Bv s.heap a (C7 λ_=>(#[]:Array Aj));obtain⟨e1,ho1⟩:∃e1,(s.heap.update a (C7 λ_=>(#[]:Array Aj))).get? a=ae (Dl "list" #[] e1):=⟨_,get?_update_seq ho λ_=>#[]⟩;have ho6:(((s.heap.update a (C7 λ_=>(#[]:Array Aj))).push (Dl "tuple" vs.toArray 0)).push (Dl "list" #[] 0)).get? a=ae (Dl "list" #[] e1):=Ai _ (Ai _ ho1);rw[list_sort_plain];refine Ad (listItems_at ho rfl ?_);refine Ad (listUpdate_at ho rfl ?_ (by rw[Bb,Eu];omega) (Bf _));refine Ad (seqEpoch_at ho1 rfl ?_);refine Ad (wpAny_newTuple ?_ (by show vs.length<=_;rw[Eu];omega));refine Ad (wpAny_newList ?_ (Bf _));refine Dv ?_;show Bd (Bn prog w) A _ P E {s with heap:=((s.heap.update a (C7 λ_=>(#[]:Array Aj))).push (Dl "tuple" vs.toArray 0)).push (Dl "list" #[] 0)};dsimp only;have hn2:vs.toArray.size < 2:=by rw[Bb];omega
 rw[if_pos hn2,if_pos hn2];refine Ad (Ap ?_);rw[StateT.run_pure];refine Ad (Ap ?_);dsimp only;refine Ad (seqEpoch_at ho6 rfl ?_);refine Ad (listUpdate_at ho6 rfl ?_ (hsz2:=by rw[Array.size_map];show(pairsOf vs).size<=_;rw[pairsOf_size,Eu];omega));simp only[bne_self_eq_false,Cb,if_false];have e:(arrOf (SortSt.mk' general' (vs.toArray.zip vs.toArray) #[] 7 af)).map (·.2)=vs.toArray:=by
  show(vs.toArray.zip vs.toArray).map (·.2)=vs.toArray;apply Array.toList_inj.mp;simp only[Array.toList_map,Array.toList_zip];exact List.map_snd_zip (Ay _)
 have s2:=Bv (((s.heap.update a (C7 λ_=>(#[]:Array Aj))).push (Dl "tuple" vs.toArray 0)).push (Dl "list" #[] 0)) a (C7 λ_=>(arrOf (SortSt.mk' general' (vs.toArray.zip vs.toArray) #[] 7 af)).map (·.2));refine Ap (h _ _ (by rw[e];exact get?_update_seq ho6 λ_=>vs.toArray) λb o hb q=>(s2.2 b hb).trans (Ai _ (Ai _ ((s1.2 b hb).trans q))))
theorem sorted_of(hcol:Bd (Bn prog w) A.in1 (collect r) R E s)
  (h:∀vs s1,R vs s1->vs.length<=A6/\Bd (Bn prog w) A.in1.in1 (Ez.«list.sort» ⟨[.ref s1.heap.objs.size],[]⟩) (λf s2=>f=.done (.ret .none)/\Q (.ref s1.heap.objs.size) s2) E {s1 with heap:=s1.heap.push (Dl "list" vs.toArray 0)}):
  Bd (Bn prog w) A (call (.builtin "sorted") [r]) Q E s:=by
 refine Calls.call_function_entry kind_sorted plain_sorted entry_sorted (args_sorted1 _) ?_;unfold Ez.«sorted»;refine Ad (m:=checkCount "sorted" 1 1 _) (Ap ?_);refine Ad (Dn hcol (λvs s1 hr=>?_) λ_ _ e=>e);obtain⟨hl,hs⟩:=h vs s1 hr;refine Ad (wpAny_newList ?_ hl);have hoL:(s1.heap.push (Dl "list" vs.toArray 0)).get? s1.heap.objs.size=ae (Dl "list" vs.toArray 0):=Ba _ rfl;refine Ad (Dv (Cp (s:={ s1 with heap:=s1.heap.push (Dl "list" vs.toArray 0)}) slot_list_sort ⟨_,hoL,rfl⟩ entry_list_sort ?body (args_list_sort _)))
 case body=>
  refine Dn hs (λf s2 hf=>?_) λ_ _ e=>e;obtain⟨rfl,hq⟩:=hf;exact⟨_,rfl,Ap ⟨_,rfl,hq⟩⟩
def ltK(ks:List Str)(i j:Nat):Bool:=decide ((ks.getD i ⟨#[]⟩).cps.toList < (ks.getD j ⟨#[]⟩).cps.toList)
theorem lt_asym'(x y:List Nat)(h:x < y):¬y < x:=λz=>List.lt_irrefl x (List.lt_trans h z)
theorem ordK(ks):Ord (ltK ks) where
 asym:=λi j h=>by
  unfold ltK at h ⊢;exact decide_eq_false (lt_asym' _ _ (of_decide_eq_true h))
 ltr:=λi j k h1 h2=>by
  unfold ltK at h1 h2 ⊢;have h1:=of_decide_eq_false h1;have h2:=of_decide_eq_false h2;refine decide_eq_false λz=>?_;have l1:=Ge.mp h1;have l2:=Ge.mp h2;exact absurd z (Ge.mpr (List.le_trans l1 l2))
end
end KS
namespace L2
open PySem PySem.Spec PyProof.Rows PySem.W
theorem Qo(hz:p.size=n)(h:KS.SP (KS.ltK ks) p n):(p.toList.map λi=>ks.getD i ⟨#[]⟩).Pairwise (λa b=>¬b.cps.toList < a.cps.toList):=by
 rw[List.pairwise_iff_getElem];intro i j hi hj hij;rw[Ab,C5,hz]at hi hj;have:=h i j hij hj;unfold KS.ltK KS.g at this;have e1:p.getD i 0=p[i]:=by simp[hz,hi]
 have e2:p.getD j 0=p[j]:=by simp[hz,hj]
 rw[e1,e2]at this;simp only[List.getElem_map,Array.getElem_toList];exact of_decide_eq_false this
def j0(vs:List Aj)(ks:List Str):Prop:=vs.length=ks.length/\∀(j:Nat) v,vs[j]?=ae v->∃k t,ks[j]?=ae k/\v=.str k t
theorem JA(h:j0 vs ks):∀(idx:List Nat),(∀i∈idx,i < ks.length)->Vals ((idx.map λi=>ks.getD i ⟨#[]⟩).map V.str) (idx.map λi=>vs.getD i B1)
 |[],_=>.nil
 |i::r,hi=>by
  have h1:=hi i Ae;have h2:i < vs.length:=by rw[h.1];exact h1
  obtain⟨k,t,e1,e2⟩:=h.2 i vs[i] (Ar h2);refine .cons ⟨t,?_⟩ (JA h r λj hj=>hi j (Af _ hj));simp[h2,e1,e2]
theorem Mf{ks:List Str}{idx:List Nat}(h:idx.Perm (Ce ks.length)):(idx.map λi=>ks.getD i ⟨#[]⟩).Perm ks:=by
 have h1:=h.map λi=>ks.getD i (⟨#[]⟩:Str);have h2:(Ce ks.length).map (λi=>ks.getD i (⟨#[]⟩:Str))=ks:=by
  apply List.ext_getElem (by simp);intro i h1 h2;simp[h2]
 rw[h2]at h1;exact h1
end L2
namespace L2
open PySem PySem.Spec PyProof.Rows
section
variable{prog:Bs}{w:B5}{A:Cj}{E:Aj->Ao->Prop}{s:Ao}
theorem tQ(hit:s.heap.IsTupleIter it t i)(ht:s.heap.IsTuple t items)(hx:items[i]?=ae x)
  (hQ:∀h',h'.IsTupleIter it t (i+1)->Dj it s.heap h'->Q x {s with heap:=h'}):Bd (Bn prog w) A (Cq (.ref it)) Q E s:=by
 obtain⟨o,ho,hc,hd⟩:=id hit;obtain⟨ol,hol,_,nl,hdl⟩:=ht;unfold Cq;refine Ad (B9 (name:=Bt "__next__") hit.typeIs F5
  (Cp F5 hit.typeIs F.entry_tuple_iterator_next ?_ (F.args_tuple_iterator_next_1 _)))
 show Bd _ _ (field (.ref it) 0>>=_) _ _ s;refine Ad (C3 ho hd (x:=.ref t) rfl ?_);show Bd _ _ (if (B8 t==B1)=ah then _ else _) _ _ s;rw[if_neg (show ¬((B8 t==B1)=ah)from Al)];show Bd _ _ (field (.ref it) 1>>=_) _ _ s;refine Ad (C3 ho hd (x:=.int i 0) rfl ?_);show Bd _ _ (seqItems? (.ref t)>>=_) _ _ s;refine Ad (Dd hol hdl ?_);simp only[B6,hx];refine Ad (Dx ho hd (by simp) (Ap ⟨x,rfl,Ap (hQ _ ?_ (Bv ..))⟩));exact⟨_,Ca _ ho (Dy (Co hd _)),(Ft ..).trans hc,by
  rw[Co hd];simp[De]⟩
theorem zg(hh:A.handled=af)(hit:s.heap.IsTupleIter it t i)(ht:s.heap.IsTuple t items)(hx:items[i]?=af)
  (hE:∀h' e,Heap.ExtBut it s.heap h'->(∃o,h'.get? e=ae o/\o.cls=.type "StopIteration")->E (.ref e) {s with heap:=h'}):
  Bd (Bn prog w) A (Cq (.ref it)) Q E s:=by
 obtain⟨o,ho,hc,hd⟩:=id hit;obtain⟨ol,hol,_,nl,hdl⟩:=ht;unfold Cq;refine Ad (B9 (name:=Bt "__next__") hit.typeIs F5
  (Cp F5 hit.typeIs F.entry_tuple_iterator_next ?_ (F.args_tuple_iterator_next_1 _)))
 show Bd _ _ (field (.ref it) 0>>=_) _ _ s;refine Ad (C3 ho hd (x:=.ref t) rfl ?_);show Bd _ _ (if (B8 t==B1)=ah then _ else _) _ _ s;rw[if_neg (show ¬((B8 t==B1)=ah)from Al)];show Bd _ _ (field (.ref it) 1>>=_) _ _ s;refine Ad (C3 ho hd (x:=.int i 0) rfl ?_);show Bd _ _ (seqItems? (.ref t)>>=_) _ _ s;refine Ad (Dd hol hdl ?_);simp only[B6,hx];refine Ad (Gz (Ad (Dx ho hd (by simp) ?_)));show Bd _ _ (newExc (.type "StopIteration") []>>=_) _ _ _;refine Ad ?_;simp only[newExc,newTuple];refine Ad (Cc ?_ (by size_fits));refine Ad (m:=Fc _ _) (wpAny_of_eq (a:=B1) (by first|rfl|(simp only[Fc];rfl)) ?_);refine Cc ?_ (by size_fits);simp only[raiseNew];refine Ad (wpAny_handled ?_)
 first|rw[show A.in1.handled=af from hh]|rw[hh]
 refine Ad (Ap (wpAny_throw ?_));exact hE _ _ (((Bv ..).extBut.push _).push _) ⟨_,Ba _ rfl,rfl⟩
theorem Zz{z TI TO i1 i2 l1 l2:Addr}{Q:Aj->Ao->Prop}(D:ZipApart z TI TO i1 i2 l1 l2)
  (hz:IsZip s.heap z TI TO .none) (hTI:En s.heap TI (.ref i1) (.ref i2)) (hTO:En s.heap TO a b)
  (h1:s.heap.IsTupleIter i1 l1 k) (h2:s.heap.IsTupleIter i2 l2 k) (hl1:s.heap.IsTuple l1 xs) (hl2:s.heap.IsTuple l2 ys) (hx:xs[k]?=ae x) (hy:ys[k]?=ae y)
  (hQ:∀h',IsZip h' z TI TO (De s.heap.objs.size)->En h' TO x y->h'.IsTupleIter i1 l1 (k+1)->h'.IsTupleIter i2 l2 (k+1)->En h' s.heap.objs.size x y->h'.objs.size=s.heap.objs.size+1->
   (∀c o,c≠z->c≠TO->c≠i1->c≠i2->s.heap.get? c=ae o->h'.get? c=ae o)->Q (.ref s.heap.objs.size) {s with heap:=h'}):
  Bd (Bn prog w) A (Ez.«zip.__next__» ⟨[.ref z],[]⟩) (λfin s'=>∃v,fin=.done (.ret v)/\Q v s') E s:=by
 show Bd _ _ (field (.ref z) 2>>=_) _ _ _;refine Ad (C3 hz rfl (x:=.bool ai) rfl ?_);show Bd _ _ (field (.ref z) 3>>=_) _ _ _;refine Ad (C3 hz rfl (x:=.ref TI) rfl ?_);refine Ad (Dd hTI rfl ?_);show Bd _ _ (Ct (.ref z)>>=_) _ _ _;refine Ad ?_;unfold Ct;refine Ad (C3 hz rfl (x:=.none) rfl (Ap ?_));simp only[if_true];refine Ad (Gz ?_);refine Ad (C3 hz rfl (x:=.ref TO) rfl ?_);refine Ad (El hz (by simp) λg1 hz1 s1=>?_)
 replace hz1:IsZip g1 z TI TO .ellipsis:=hz1
 refine Ad ?_;simp only[List.zipIdx_cons,List.zipIdx_nil,List.forIn_cons,List.forIn_nil];refine Ad (Ad (wpAny_onRaise ?_));show Bd _ _ (Cq (.ref i1)>>=_) _ _ _;refine Ad (tQ (h1.extBut s1.extBut D.i1z) (hl1.extBut s1.extBut D.l1z) hx λg2 t2 s2=>Ap ?_);have p2:En g2 TO a b:=s2.extBut _ _ D.TOi1 (s1.extBut _ _ D.TOz hTO);refine Ad (Dd p2 rfl ?_);refine Ad (wpAny_updateSeq_pair p2 λg3 p3 s3=>?_)
 replace p3:En g3 TO x b:=p3
 refine Ad (wpAny_letGo (Ap ?_));refine Ad (Ad (wpAny_onRaise ?_));show Bd _ _ (Cq (.ref i2)>>=_) _ _ _;refine Ad (tQ (((h2.extBut s1.extBut D.i2z).extBut s2.extBut D.i12.symm).extBut s3.extBut D.TOi2.symm)
  (((hl2.extBut s1.extBut D.l2z).extBut s2.extBut D.l2i1).extBut s3.extBut D.l2TO) hy λg4 t4 s4=>Ap ?_)
 have p4:En g4 TO x b:=s4.extBut _ _ D.TOi2 p3;refine Ad (Dd p4 rfl ?_);refine Ad (wpAny_updateSeq_pair p4 λg5 p5 s5=>?_)
 replace p5:En g5 TO x y:=p5
 refine Ad (wpAny_letGo (Ap (Ap ?_)));refine Ad (Dd p5 rfl ?_);refine Ad (wpAny_newTuple ?_);have sz:g5.objs.size=s.heap.objs.size:=by rw[s5.1,s4.1,s3.1,s2.1,s1.1]
 have z5:IsZip g5 z TI TO .ellipsis:=s5.extBut _ _ D.TOz.symm (s4.extBut _ _ D.i2z.symm (s3.extBut _ _ D.TOz.symm (s2.extBut _ _ D.i1z.symm hz1)));have k5:∀c o,c≠z->c≠TO->c≠i1->c≠i2->s.heap.get? c=ae o->g5.get? c=ae o:=λc o c1 c2 c3 c4 e=>
  s5.extBut _ _ c2 (s4.extBut _ _ c4 (s3.extBut _ _ c2 (s2.extBut _ _ c3 (s1.extBut _ _ c1 e))))
 have u1:g5.IsTupleIter i1 l1 (k+1):=((t2.extBut s3.extBut D.TOi1.symm).extBut s4.extBut D.i12).extBut s5.extBut D.TOi1.symm;have u2:g5.IsTupleIter i2 l2 (k+1):=t4.extBut s5.extBut D.TOi2.symm;have zlt:z < g5.objs.size:=A0 z5;show Bd _ _ (G2 (.ref z) (.ref g5.objs.size)>>=_) _ _ _;refine Ad ?_;unfold G2;have z6:IsZip (g5.push {cls:=.type "tuple",data:=.seq #[x,y]}) z TI TO .ellipsis:=Ai _ z5;refine Ad (El z6 (by simp) λg7 z7 s7=>?_)
 replace z7:IsZip g7 z TI TO (De g5.objs.size):=z7
 refine El z7 (by simp) λg8 z8 s8=>?_
 replace z8:IsZip g8 z TI TO (De g5.objs.size):=z8
 have up:∀c o,c≠z->g5.get? c=ae o->g8.get? c=ae o:=λc o c1 e=>s8.extBut _ _ c1 (s7.extBut _ _ c1 (Ai _ e));have T8:En g8 g5.objs.size x y:=s8.extBut _ _ (Ef zlt) (s7.extBut _ _ (Ef zlt) (Ba _ rfl));have e8:g8.objs.size=g5.objs.size+1:=by rw[s8.1,s7.1,Cs]
 rw[sz]at z8 T8 e8;refine Ap ⟨_,rfl,?_⟩;show Q (.ref g5.objs.size) _;rw[sz];exact hQ g8 z8 (up _ _ D.TOz p5) (u1.at λo e=>up _ o D.i1z e) (u2.at λo e=>up _ o D.i2z e) T8 e8 λc o c1 c2 c3 c4 e=>up c o c1 (k5 c o c1 c2 c3 c4 e)
theorem VH{z TI TO i1 i2 l1 l2:Addr}(hh:A.handled=af)(D:ZipApart z TI TO i1 i2 l1 l2)
  (hz:IsZip s.heap z TI TO .none) (hTI:En s.heap TI (.ref i1) (.ref i2)) (h1:s.heap.IsTupleIter i1 l1 k) (hl1:s.heap.IsTuple l1 xs) (hx:xs[k]?=af)
  (hE:∀h' e,(∀c o,c≠z->c≠i1->s.heap.get? c=ae o->h'.get? c=ae o)->(∃o,h'.get? e=ae o/\o.cls=.type "StopIteration")->E (.ref e) {s with heap:=h'}):
  Bd (Bn prog w) A (Ez.«zip.__next__» ⟨[.ref z],[]⟩) Q E s:=by
 show Bd _ _ (field (.ref z) 2>>=_) _ _ _;refine Ad (C3 hz rfl (x:=.bool ai) rfl ?_);show Bd _ _ (field (.ref z) 3>>=_) _ _ _;refine Ad (C3 hz rfl (x:=.ref TI) rfl ?_);refine Ad (Dd hTI rfl ?_);show Bd _ _ (Ct (.ref z)>>=_) _ _ _;refine Ad ?_;unfold Ct;refine Ad (C3 hz rfl (x:=.none) rfl (Ap ?_));simp only[if_true];refine Ad (Gz ?_);refine Ad (C3 hz rfl (x:=.ref TO) rfl ?_);refine Ad (El hz (by simp) λg1 hz1 s1=>?_)
 replace hz1:IsZip g1 z TI TO .ellipsis:=hz1
 refine Ad ?_;simp only[List.zipIdx_cons,List.zipIdx_nil,List.forIn_cons,List.forIn_nil];refine Ad (Ad (wpAny_onRaise ?_));show Bd _ _ (Cq (.ref i1)>>=_) _ _ _;refine Ad (zg hh (h1.extBut s1.extBut D.i1z) (hl1.extBut s1.extBut D.l1z) hx λg2 e s2 he=>?_);obtain⟨oe,hoe,hce⟩:=he;have z2:IsZip g2 z TI TO .ellipsis:=s2 _ _ D.i1z.symm hz1;have hez:e≠z:=λx=>by subst x;rw[z2]at hoe;cases hoe;simp at hce
 refine El z2 (by simp) λg3 _ s3=>hE g3 e (λc o c1 c3 x=>s3.extBut _ _ c1 (s2 _ _ c3 (s1.extBut _ _ c1 x))) ⟨oe,s3.extBut _ _ hez hoe,hce⟩
theorem Yv{z TI TO i1 i2 l1 l2:Addr}(D:ZipApart z TI TO i1 i2 l1 l2)
  (hz:IsZip s.heap z TI TO .none) (hTI:En s.heap TI (.ref i1) (.ref i2)) (hTO:En s.heap TO a b)
  (h1:s.heap.IsTupleIter i1 l1 k) (h2:s.heap.IsTupleIter i2 l2 k) (hl1:s.heap.IsTuple l1 xs) (hl2:s.heap.IsTuple l2 ys) (hx:xs[k]?=ae x) (hy:ys[k]?=ae y)
  (hQ:∀h',IsZip h' z TI TO (De s.heap.objs.size)->En h' TO x y->h'.IsTupleIter i1 l1 (k+1)->h'.IsTupleIter i2 l2 (k+1)->En h' s.heap.objs.size x y->h'.objs.size=s.heap.objs.size+1->
   (∀c o,c≠z->c≠TO->c≠i1->c≠i2->s.heap.get? c=ae o->h'.get? c=ae o)->Q (ae (.ref s.heap.objs.size)) {s with heap:=h'}):
  Bd (Bn prog w) A (E5 (.ref z)) Q E s:=by
 have hT:s.TypeIs (.ref z) "zip":=⟨_,hz,rfl⟩;unfold E5;exact Ad (E3 (B9 (name:=Bt "__next__") hT Gi
  (Cp Gi hT F.entry_zip_next
   (Zz D hz hTI hTO h1 h2 hl1 hl2 hx hy λh' a1 a2 a3 a4 a5 a6 a7=>Ap (hQ h' a1 a2 a3 a4 a5 a6 a7)) (F.args_zip_next_1 _))))
theorem N7{z TI TO i1 i2 l1 l2:Addr}(hh:A.handled=af)(D:ZipApart z TI TO i1 i2 l1 l2)
  (hz:IsZip s.heap z TI TO .none) (hTI:En s.heap TI (.ref i1) (.ref i2)) (h1:s.heap.IsTupleIter i1 l1 k) (hl1:s.heap.IsTuple l1 xs) (hx:xs[k]?=af)
  (hQ:∀h',(∀c o,c≠z->c≠i1->s.heap.get? c=ae o->h'.get? c=ae o)->Q af {s with heap:=h'}):Bd (Bn prog w) A (E5 (.ref z)) Q E s:=by
 have hT:s.TypeIs (.ref z) "zip":=⟨_,hz,rfl⟩;unfold E5;refine Ad (E3 (B9 (name:=Bt "__next__") hT Gi
  (Cp Gi hT F.entry_zip_next (VH hh D hz hTI h1 hl1 hx λh' e hk he=>?_) (F.args_zip_next_1 _))))
 obtain⟨o,ho,hc⟩:=he;refine Ad (Gb (T:="StopIteration") (b:=ah) ⟨o,ho,hc⟩ isSubtype_stop ?_);exact Ap (hQ _ hk)
end
abbrev tX(h:Heap)(l1:Addr):Heap:=h.push {cls:=.type "tuple_iterator",data:=.fields #[.ref l1,.int 0 0]}
abbrev tL(h:Heap)(l1 l2:Addr):Heap:=(tX h l1).push {cls:=.type "tuple_iterator",data:=.fields #[.ref l2,.int 0 0]}
abbrev rJ(h:Heap)(l1 l2:Addr):Heap:=(tL h l1 l2).push {cls:=.type "tuple",data:=.seq #[.ref h.objs.size,.ref (tX h l1).objs.size]}
abbrev uc(h:Heap)(l1 l2:Addr):Heap:=(rJ h l1 l2).push {cls:=.type "tuple",data:=.seq #[.none,.none]}
abbrev nP(h:Heap)(l1 l2:Addr):Heap:=(uc h l1 l2).push {cls:=.type "zip",data:=.fields #[.none,.bool ai,.bool ai,.ref (tL h l1 l2).objs.size,.ref (rJ h l1 l2).objs.size]}
theorem VI(l1 l2)(xs ys):
  Meets (Ez.«zip.__new__» ⟨[.type "zip",.ref l1,.ref l2],[]⟩) (λ_ R s=>s.heap.IsTuple l1 xs/\s.heap.IsTuple l2 ys /\
   R (.ok (.ret (.ref (uc s.heap l1 l2).objs.size))) {s with heap:=nP s.heap l1 l2}):=
 .of_wp λprog w A R s h=>by
  obtain⟨hp,g,d,tk,os⟩:=s;obtain⟨hl1,hl2,h⟩:=h;have hsub:=sub_zip;have hL1:Heap.IsTuple (Shared.heap ⟨hp,g,d,tk,os⟩) l1 xs:=hl1;have hL2:Heap.IsTuple (Shared.heap ⟨hp.push {cls:=.type "tuple_iterator",data:=.fields #[.ref l1,.int 0 0]},g,d,tk,os⟩) l2 ys:=Heap.IsTuple.push hl2 _
  wp_walk using Em hL1,Em hL2
  exact⟨_,rfl,h⟩
section
variable{prog:Bs}{w:B5}{A:Cj}{E:Aj->Ao->Prop}{s:Ao}
theorem Wo(hl1:s.heap.IsTuple l1 xs)(hl2:s.heap.IsTuple l2 ys)
  (h:∀h',IsZip h' (s.heap.objs.size+4) (s.heap.objs.size+2) (s.heap.objs.size+3) .none->En h' (s.heap.objs.size+2) (.ref s.heap.objs.size) (.ref (s.heap.objs.size+1))->
   En h' (s.heap.objs.size+3) .none .none->h'.IsTupleIter s.heap.objs.size l1 0->h'.IsTupleIter (s.heap.objs.size+1) l2 0->
   (∀c o,s.heap.get? c=ae o->h'.get? c=ae o)->Q (.ref (s.heap.objs.size+4)) {s with heap:=h'}):
  Bd (Bn prog w) A (call (.type "zip") [.ref l1,.ref l2]) Q E s:=by
 refine callType_new F.called_zip ∎ (F.typeCall_zip_2 _ _) (F.newCall_zip_2 _ _) (λobj=>F.args_object_init_3 obj _ _) F.entry_zip_new
  (VI l1 l2 xs ys) ⟨hl1,hl2,?_⟩
 have z1:(tX s.heap l1).objs.size=s.heap.objs.size+1:=Cs ..;have z2:(tL s.heap l1 l2).objs.size=s.heap.objs.size+2:=by rw[Cs,z1]
 have z3:(rJ s.heap l1 l2).objs.size=s.heap.objs.size+3:=by rw[Cs,z2]
 have z4:(uc s.heap l1 l2).objs.size=s.heap.objs.size+4:=by rw[Cs,z3]
 have g5:(nP s.heap l1 l2).get? (uc s.heap l1 l2).objs.size=ae _:=Ba _ rfl;have g4:(nP s.heap l1 l2).get? (rJ s.heap l1 l2).objs.size=ae _:=Ai _ (Ba _ rfl);have g3:(nP s.heap l1 l2).get? (tL s.heap l1 l2).objs.size=ae _:=Ai _ (Ai _ (Ba _ rfl));have g2:(nP s.heap l1 l2).get? (tX s.heap l1).objs.size=ae _:=Ai _ (Ai _ (Ai _ (Ba _ rfl)));have g1:(nP s.heap l1 l2).get? s.heap.objs.size=ae _:=Ai _ (Ai _ (Ai _ (Ai _ (Ba _ rfl))));show _/\_;rw[z2,z3,z4]at g5;rw[z1,z2]at g3;rw[z3]at g4;rw[z1]at g2;rw[z4];exact⟨⟨_,g5,rfl⟩,h _ g5 g3 g4 ⟨_,g1,rfl,rfl⟩ ⟨_,g2,rfl,rfl⟩ λc o x=>
  Ai _ (Ai _ (Ai _ (Ai _ (Ai _ x))))⟩
end
theorem Inv.many{σ:St}{s:Ao}{h':Heap}{fp:List Addr}{a:Addr}(I:Inv X pins σ H s)(hf:∀b∈fp,du X pins H b)(k:∀b u,b∉fp->s.heap.get? b=ae u->h'.get? b=ae u)
  (ha:s.heap.objs.size<=a) (new:ObjOk X.prog X.w (upd H a o) h' a o):Inv X pins σ (upd H a o) {s with heap:=h',toks:=t'}:=by
 have hn:H a=af:=I.hok.fresh ha;have nf:∀b u,H b=ae u->b∉fp:=λb u e z=>by rw[(hf b z).1]at e;cases e
 refine I.call' (s':={ s with heap:=h',toks:=t'}) (ch:=fp) rfl ⟨λb u q _ _ z=>k b u z q,λb u q _ _ z=>⟨u.slots,k b u z q⟩,λb u q n _=>?_,λb u q z=>⟨u,k b u z q⟩,λb xs q=>?_,λb u xs q=>?_,λb ps q=>⟨#[],?_⟩⟩ (λb u e=>?_) I.bare (λb hb=>?_)
 ·rw[bc (Bq (By (A0 q) ha))];exact n
 ·rw[bc (b5 q hn)];exact q
 ·rw[bc (b5 q hn)];exact q
 ·rw[bc (b5 q hn),q];simp
 ·by_cases z:b=a
  ·subst z;rw[bL]at e;cases e;exact new
  ·rw[bc z]at e;refine(I.hok b u e).stay (λc v hc q=>k c v ?_ q) (λc q=>?_) λc ys q=>?_
   ·rcases hc with z|z
    ·rw[z];exact nf b u e
    ·exact nf c _ z
   ·rw[bc (b5 q hn)];exact q
   ·rw[bc (b5 q hn)];exact q
 ·obtain⟨f0,f1,f2,f3,f4,f5⟩:=hf b hb;exact⟨f3,f1,f4,f5⟩
theorem Inv.many0{σ:St}{fp:List Addr}(I:Inv X pins σ H s)(hf:∀b∈fp,du X pins H b)(k:∀b u,b∉fp->s.heap.get? b=ae u->h'.get? b=ae u):Inv X pins σ H {s with heap:=h',toks:=t'}:=by
 have nf:∀b u,H b=ae u->b∉fp:=λb u e z=>by rw[(hf b z).1]at e;cases e
 refine I.call' (s':={ s with heap:=h',toks:=t'}) (ch:=fp) rfl ⟨λb u q _ _ z=>k b u z q,λb u q _ _ z=>⟨u.slots,k b u z q⟩,λb u q n _=>n,λb u q z=>⟨u,k b u z q⟩,λb xs q=>q,λb u xs q=>q,λb ps q=>⟨#[],by rw[q];simp⟩⟩ (λb u e=>?_) I.bare (λb hb=>?_)
 ·refine(I.hok b u e).stay (λc v hc q=>k c v ?_ q) (λc q=>q) λc ys q=>q;rcases hc with z|z
  ·rw[z];exact nf b u e
  ·exact nf c _ z
 ·obtain⟨f0,f1,f2,f3,f4,f5⟩:=hf b hb;exact⟨f3,f1,f4,f5⟩
theorem X6:Cf "zip"=ae (.type "zip"):=by decide +kernel
end L2
namespace DL
open PySem L2 Nb
def eH(kvs:List (bg×Aa))(k:bg):Option Aa:=(kvs.find? λkv=>decide (kv.1=k)).map (·.2)
def kh(kvs:List (bg×Aa))(k:bg)(v:Aa):List (bg×Aa):=
 if (kvs.any λkv=>decide (kv.1=k))=ah then kvs.map (λkv=>if kv.1=k then(kv.1,v)else kv)else kvs++[(k,v)]
def ll(kvs more:List (bg×Aa)):List (bg×Aa):=more.foldl (λacc kv=>kh acc kv.1 kv.2) kvs
section
variable{H H':Hp}{B B':Addr->Prop}{l:List (bg×V)}{m:List (bg×Aa)}{v:V}{d:Aa}{t:Addr}
theorem RdK.val(h:RdK H B l m)(k):(dC l k=af/\eH m k=af)\/∃v d,dC l k=ae v/\eH m k=ae d/\RdX H B v d:=by
 unfold RdK at h
 induction h with
 |nil=>exact .inl ⟨rfl,rfl⟩
 |@cons p q ps qs r _ ih=>
  by_cases e:p.1=k
  ·have e':q.1=k:=r.1▸e;exact .inr ⟨p.2,q.2,by simp[dC,Du,e],by simp[eH,Du,e'],r.2⟩
  ·have e':¬q.1=k:=r.1▸e;have a1:dC (p::ps) k=dC ps k:=by simp[dC,Du,e]
   have a2:eH (q::qs) k=eH qs k:=by simp[eH,Du,e']
   rw[a1,a2];exact ih
theorem RdK.any(h:RdK H B l m)(k):(l.any λkv=>decide (kv.1=k))=(m.any λkv=>decide (kv.1=k)):=by
 unfold RdK at h
 induction h with
 |nil=>rfl
 |cons r _ ih=>rw[Fk,Fk,ih,r.1]
theorem RdK.map(h:RdK H B l m)(r:RdX H B v d)(k):RdK H B (l.map λkv=>if kv.1=k then(kv.1,v)else kv) (m.map λkv=>if kv.1=k then(kv.1,d)else kv):=by
 unfold RdK at h ⊢
 induction h with
 |nil=>exact .nil
 |@cons p q ps qs r' _ ih=>
  rw[A3,A3];refine .cons ?_ ih;by_cases e:p.1=k
  ·rw[if_pos e,if_pos (r'.1▸e:q.1=k)];exact⟨r'.1,r⟩
  ·rw[if_neg e,if_neg (r'.1▸e:¬q.1=k)];exact r'
theorem RdK.append(h:RdK H B l m)(h2:RdK H B l2 m2):RdK H B (l++l2) (m++m2):=by
 unfold RdK at h ⊢
 induction h with
 |nil=>exact h2
 |cons r' _ ih=>exact .cons r' ih
theorem RdK.put(h:RdK H B l m)(r:RdX H B v d)(k):RdK H B (dG l k v) (kh m k d):=by
 unfold dG kh;rw[h.any k]
 split
 ·exact h.map r k
 ·exact h.append (.cons ⟨rfl,r⟩ .nil)
theorem RdK.merge(h2:RdK H B l2 m2):∀{l:List (bg×V)}{m:List (bg×Aa)},RdK H B l m->RdK H B (jX l l2) (ll m m2):=by
 unfold RdK at h2
 induction h2 with
 |nil=>intro l m h;exact h
 |@cons p q ps qs r _ ih=>
  intro l m h;show RdK H B (jX (dG l p.1 p.2) ps) (ll (kh m q.1 q.2) qs);rw[r.1];exact ih (h.put r.2 _)
theorem YA(l:List (bg×V))(k)(v):(dG l k v).length<=l.length+1:=by
 unfold dG
 split
 ·rw[Ab];omega
 ·rw[Ah];exact Ay _
theorem RN(l2:List (bg×V)):∀l:List (bg×V),(jX l l2).length<=l.length+l2.length:=by
 induction l2 with
 |nil=>intro l;exact Ay _
 |cons p r ih=>
  intro l;show(jX (dG l p.1 p.2) r).length<=_;have:=ih (dG l p.1 p.2);have:=YA l p.1 p.2;rw[Am];omega
end
section
variable{X:Cx}{a b c e o i f:Expr}{ta tb te td ty tx:TE}{wa wb we wd' wy wx:DT}{pos p:Pos}{K:Ag}
def nr(i:Nat):DT:=λδ n Q=>match δ[i]? with
 |some (ae (.odk kvs))=>Q (.dk kvs) n
 |some (ae (.w x))=>Q x n
 |_=>False
theorem X7(i)(hN:X.N[i]?=ae x:=by rfl)(hv:gT X.env.scope x:=by first|exact Dr rfl|exact Cw (Dr rfl)|exact Cw (Cw rfl))(hd:(x==("__debug__":Str))=ai:=by decide)
  (hcd:(x==("__classdict__":Str))=ai:=by decide):DE X (.Name x p) (b9 i) (nr i):=⟨jw hN hv hd hcd,λC H B σ δ n Q Q' R h k=>by
 unfold nr at h
 split at h
 ·rename_i kvs e;obtain⟨v,h1,a,l,rfl,g2,g3,g4,g5,g6⟩:=R.sl i _ e;exact⟨_,h1,k _ (.dk kvs) H n R (Kp.refl _ _) ⟨a,l,rfl,g2,λz=>R.t0 (z▸g4),g6⟩ h⟩
 ·rename_i x e;obtain⟨v,h1,h2⟩:=R.sl i _ e;exact⟨v,h1,k v x H n R (Kp.refl _ _) h2.1 h⟩
 ·exact h.elim⟩
def qv:Wv->Wv->Int->DQ->Prop:=λx y n Q=>match x,y with
 |.dk kvs,.d (.str k)=>match eH kvs (.inr k)with
  |some d=>Q (.d d) n
  |none=>False
 |_,_=>False
theorem Xq(hu:X.A.units+64 < cLine)(ho:DE X o td wd')(hi:DE X i ty wy)(hs:lx i:=by exact λ_ _=>rfl):DE X (.Subscript o i pos) (KO td ty) (w2 wd' wy qv):=⟨SS ⋯ ho.pe hi.pe hs,λC H B σ δ n Q Q' R h k=>
 ho.sd C H B σ δ n _ _ R h λv x H1 n1 R1 k1 r1 q1=>hi.sd C H1 B σ δ n1 _ _ R1 q1 λu y H2 n2 R2 k2 r2 q2=>by
  have r1':=r1.kp k2 R1.bt;unfold qv at q2
  split at q2
  ·rename_i kvs key;obtain⟨a,l,rfl,g1,g2,g3⟩:=r1';cases(show RdX H2 B u (.str key)from r2);rcases g3.val (.inr key)with⟨e1,e2⟩|⟨v,d,e1,e2,e3⟩
   ·rw[e2]at q2;exact q2.elim
   ·rw[e2]at q2;exact⟨a,v,rfl,.inl ⟨l,.inr key,.inl g1,rfl,e1.symm⟩,k v (.d d) H2 n2 R2 (k1.trans k2) e3 q2⟩
  ·exact q2.elim⟩
def Si(wd wy wx:DT):DT:=λδ n Q=>wd δ n λx n1=>match x with
 |.dk kvs=>wy δ n1 λy n2=>wx δ n2 λz n3=>match y,z with
  |.d (.str k),.d z=>Q (.d ((eH kvs (.inr k)).getD z)) n3
  |_,_=>False
 |_=>False
abbrev oK:=Sl->Int->(List (bg×Aa)->Int->Prop)->Prop
def wu(t:TE)(w:oK):Prop:=∀(C:Ctx)(H:Hp)(B:Addr->Prop)(σ:St)(δ:Sl)(n:Int)(Q:List (bg×Aa)->Int->Prop)(Q':VK),Rel C H B σ δ n->w δ n Q->
 (∀a l kvs H' n',Rel C H' B σ δ n'->Kp C.t H H'->H a=af->H' a=ae (.dK l)->l.length<=1000->RdK H' (λb=>B b\/b=a) l kvs->Q kvs n'->Q' (.ref a) H')->t σ H Q'
structure DN(X:Cx)(e:Expr)(t:TE)(w:oK):Prop where
 pe:PE X e t
 sd:wu t w
def wz(i:Nat)(w:oK):aL:=λδ n K=>w δ n λkvs n1=>K.nx (δ.set i (ae (.odk kvs))) n1
theorem ZO{i:Nat}(hN:X.N.Nodup)(hi:X.N[i]?=ae x)(hx:jz X.env.scope x)(he:DN X e te w)(hs:Fw e (ae (.Name x pos')) pos.line X.env=pure ai:=by rfl)(hf:X.fn x=ah\/X.env.scope.names.lookup x=ae .local:=by first|exact .inl rfl|exact .inr rfl|assumption):
  DS X (.Assign [.Name x pos'] e pos) (c9 te (fB i)) (wz i w):=⟨iN hN hi hx he.pe hs hf,λC H B σ δ n K D R q E=>
 he.sd C H B σ δ n _ _ R q λa l kvs H1 n1 R1 k1 h0 h1 h2 h3 q1=>by
  refine E.nx _ _ _ _ _ (R.own R1 k1 h0 (by rw[h1];exact λz=>nomatch z) rfl ?_) q1;exact⟨a,l,rfl,h1,.inr rfl,R.h0 h0,h2,h3⟩⟩
end
section
variable{X:Cx}{a b c e o i f:Expr}{ta tb te td ty tx:TE}{wa wb we wd' wy wx:DT}{pos p:Pos}{K:Ag}
theorem wg:∀{ys:List Str},(∀y∈ys,y.length<=1000)->RdXs H B (ys.map V.str) (ys.map .str)
 |[],_=>.nil
 |y::r,h=>.cons (.str _ (ur (h y Ae))) (wg λz hz=>h z (Af _ hz))
def gk(xs ys:List Aa):List Aa:=List.zipWith (λx y=>.tuple [x,y]) xs ys
end
end DL
namespace L2
open PySem PySem.Spec PyProof.Rows PySem.SeqAt
end L2
namespace DL
open PySem L2 Nb
section
variable{X:Cx}{K:Ag}
def tT(K:Ag)(f:Aa->Aa->Option Bool):R2:=λx y H Q=>∃d e b,RdD K H x d/\RdD K H y e/\d.canLay0=ah/\e.canLay0=ah/\d.depth<=20/\e.depth<=20/\f d e=ae b/\Q (.bl b) H
theorem Jk(hu:X.A.units+64 < cLine)(hK:X.K=K:=by rfl):OpR X (B4 .Eq) (tT K λd e=>ae (Bp d e)):=by
 subst hK;intro pins s σ H x y v u Q I rx ry h;obtain⟨d,e,b,h1,h2,h3,h4,h5,h6,h7,q⟩:=h;cases h7;obtain⟨as,r1⟩:=RdD.reads I h1 rx;obtain⟨bs,r2⟩:=RdD.reads I h2 ry;exact SeqAt.compareEq_reads r1 r2 h3 h4 ⋯ ⟨.bl _,H,I,rfl,q⟩
theorem Hn(hu:X.A.units+64 < cLine)(hK:X.K=K:=by rfl):OpR X (B4 .NotEq) (tT K λd e=>ae (!Bp d e)):=by
 subst hK;intro pins s σ H x y v u Q I rx ry h;obtain⟨d,e,b,h1,h2,h3,h4,h5,h6,h7,q⟩:=h;cases h7;obtain⟨as,r1⟩:=RdD.reads I h1 rx;obtain⟨bs,r2⟩:=RdD.reads I h2 ry;exact SeqAt.compareNe_reads r1 r2 h3 h4 ⋯ ⟨.bl _,H,I,rfl,q⟩
def fw(f:Aa->Aa->Option Bool):Wv->Wv->Int->DQ->Prop:=λx y n Q=>match x,y with
 |.d d,.d e=>d.canLay0=ah/\e.canLay0=ah/\d.depth<=20/\e.depth<=20/\∃b,f d e=ae b/\Q (.d (.bool b)) n
 |_,_=>False
theorem zH:bC (tT K f) (fw f):=λC H B σ δ n x y p q Q Q' R rx ry h1 k=>by
 unfold fw at h1
 split at h1
 ·rename_i d e;obtain⟨a1,a2,a3,a4,b,a5,a6⟩:=h1;exact⟨d,e,b,RdX.rd rx,RdX.rd ry,a1,a2,a3,a4,a5,k _ _ H n R (Kp.refl _ _) (wd (.bl b)) a6⟩
 ·exact h1.elim
end
end DL
namespace L2
open PySem PySem.Spec PyProof.Rows PySem.W
section
variable{prog:Bs}{w:B5}{A:Cj}{E:Aj->Ao->Prop}{s:Ao}
theorem Xm(hn:n≠0)(h:∀i dr,i < n->Q i {s with drawn:=dr}):Bd (Bn prog w) A (choose src n) Q E s:=
 λ_ _ _=>⟨hn,h _ _ (Nat.mod_lt _ (Nat.pos_of_ne_zero hn))⟩
theorem wU{α:Type}:∀(l:List α)(i:Nat)(h:i < l.length),(l[i]::l.eraseIdx i).Perm l
 |x::r,0,_=>List.Perm.refl _
 |x::r,i+1,h=>(List.Perm.swap x (r[i]'(Nat.lt_of_succ_lt_succ h)) (r.eraseIdx i)).trans ((wU r i (Nat.lt_of_succ_lt_succ h)).cons x)
theorem IF:∀(n:Nat)(xs:List α)(s:Ao){Q:List α->Ao->Prop},xs.length=n->(∀ys dr,ys.Perm xs->Q ys {s with drawn:=dr})->Bd (Bn prog w) A (drawOrder n xs) Q E s
 |0,xs,s,Q,hl,h=>by
  cases E9 hl;exact Ap (h [] s.drawn (List.Perm.refl _))
 |n+1,[],s,Q,hl,h=>by cases hl
 |n+1,x::r,s,Q,hl,h=>by
  unfold drawOrder;refine Ad (Xm (by simp) λi dr hi=>?_);rw[Ar hi];dsimp only;refine Ad (IF n _ _ (by rw[List.length_eraseIdx_of_lt hi];simp at hl ⊢;omega) λys dr' hp=>Ap (h _ dr' ?_));exact(hp.cons _).trans (wU _ _ hi)
theorem FK(next):∀(fuel k:Nat)(left:List α)(out:Array α),left.length=fuel->(pickOrder.go next fuel k left out).toList.Perm (out.toList++left)
 |0,k,left,out,hl=>by
  cases E9 hl;simp[pickOrder.go]
 |fuel+1,k,left,out,hl=>by
  have hi:next k % left.length < left.length:=Nat.mod_lt _ ⋯
  unfold pickOrder.go;rw[Ar hi];dsimp only;refine(FK next fuel (k+1) _ _ (by rw[List.length_eraseIdx_of_lt hi];omega)).trans ?_;rw[Array.toList_push,A9];exact List.Perm.append_left _ (wU _ _ hi)
theorem Qy(next)(xs:Array α):(pickOrder next xs).toList.Perm xs.toList:=by
 have:=FK next xs.size 0 xs.toList #[] (by simp)
 simpa[pickOrder]using this
def dq(w:B5):Bool:=w.params.followText "set-order"
theorem qX(h:Q (dq w) s):Bd (Bn prog w) A setsByText Q E s:=by
 unfold setsByText;exact Ad (wpAny_askSetting (Ap h))
structure SetTb(w:B5)(h:Heap)(a:Addr)(es:Array (Int×Aj))(ep:Nat)(t:Ff):Prop where
 obj:∃o,h.get? a=ae o/\o.ExactSet/\o.data=.set es ep t
 fits:t.fits es.size=ah
 led:t.led=!dq w
 plain:t.plain=ah->es.size=0
theorem SetTb.move(x:SetTb w h a es ep t)(k:∀o,h.get? a=ae o->h'.get? a=ae o):SetTb w h' a es ep t:=
 ⟨let⟨o,e,r⟩:=x.obj;⟨o,k o e,r⟩,x.fits,x.led,x.plain⟩
theorem SetTb.typeIs(x:SetTb w s.heap a es ep t):s.TypeIs (.ref a) "set":=let⟨o,e,r,_⟩:=x.obj;⟨o,e,r.1⟩
theorem SetTb.lt(x:SetTb w h a es ep t):a < h.objs.size:=let⟨_,e,_⟩:=x.obj;A0 e
theorem Yj(t:Ff)(n):(t.orStandIn n).led=t.led:=by
 unfold SetTable.orStandIn
 split<;>rfl
theorem Uy(t:Ff)(es)(h)(x):(layNew t es h x).2.1.led=t.led:=by
 unfold layNew
 split
 ·exact Yj _ _
 ·rfl
theorem M0{t t':Ff}(h:t.relaid hs n=ae (t',ord)):t'.led=t.led/\t'.plain=t.plain:=by
 unfold SetTable.relaid SetTable.laid at h;cases hc:SetTable.layClean (SetTable.sizeAbove n-1) hs with
 |none=>rw[hc]at h;cases h
 |some ow=>
  rw[hc]at h;cases h;exact⟨rfl,rfl⟩
theorem Ht(t:Ff)(es)(n):(relayAll t es n).2.1.led=t.led/\((relayAll t es n).2.1.plain=ah->t.plain=ah):=by
 unfold relayAll
 split
 ·rename_i t' ord he;obtain⟨h1,h2⟩:=M0 he;dsimp only
  split
  ·exact⟨h1,λz=>h2▸z⟩
  ·exact⟨rfl,λz=>by simp[SetTable.standIn]at z⟩
 ·exact⟨rfl,λz=>by simp[SetTable.standIn]at z⟩
def gv(v:Aj):Str:=match v with
 |.str k _=>k
 |_=>⟨#[]⟩
def cG(es:Array (Int×Aj)):List Str:=es.toList.map λe=>gv e.2
def TxEs(w:B5)(es:Array (Int×Aj)):Prop:=∀e∈es.toList,∃k t,e.2=.str k t/\e.1=hashStr w k
theorem TxEs.elems(h:TxEs w es):ElemsOf (Ec prog w) es.toList:=λe he=>by
 obtain⟨k,t,e1,e2⟩:=h e he;refine⟨⟨k,?_,e2⟩,by rw[e1];rfl⟩;rw[e1];simp[Ec,Value.isStrOf]
def jr(w:B5)(h:Heap)(a:Addr)(seen:List Str):Prop:=∃es ep t,SetTb w h a es ep t/\TxEs w es/\(cG es).Nodup/\(∀k,k∈cG es↔k∈seen)/\es.size<=seen.length
end
theorem Ij:entryFor table "set.update.loop"=ae Ez.«set.update.loop»:=entryFor_of_tree (by kernel_rfl)
theorem xw:plainId "set.update.loop"=ah:=by decide +kernel
section
variable{prog:Bs}{w:B5}{A:Cj}{E:Aj->Ao->Prop}{s:Ao}
theorem YZ{seen:List Str}(hx:TxEs w es)(nd:(cG es).Nodup)(hm:∀k,k∈cG es↔k∈seen)(hl:es.size<=seen.length)(hk:k∉cG es)
  (p:es'.toList.Perm (es.toList++[(hashStr w k,.str k tk)])):TxEs w es'/\(cG es').Nodup/\(∀k',k'∈cG es'↔k'∈seen++[k])/\es'.size<=(seen++[k]).length/\es'.size=es.size+1:=by
 have pk:(cG es').Perm (cG es++[k]):=by
  have:=p.map λe=>gv e.2;rw[Bc]at this;exact this
 have hz:es'.size=es.size+1:=by
  have:=p.length_eq;simpa using this
 refine⟨λe he=>?_,pk.nodup_iff.mpr ?_,λk'=>?_,by rw[hz,Ah];exact Nat.succ_le_succ hl,hz⟩
 ·rcases Ax.mp (p.mem_iff.mp he)with h|h
  ·exact hx e h
  ·rw[Au]at h;subst h;exact⟨k,tk,rfl,rfl⟩
 ·rw[List.nodup_append];exact⟨nd,G9 _ _,λa ha b hb e=>hk (by rw[Au]at hb;rw[<-hb,<-e];exact ha)⟩
 ·rw[pk.mem_iff,Ax,Ax,hm k']
theorem Ls(hx:TxEs w es)(nd:(cG es).Nodup)(p:es'.toList.Perm es.toList):TxEs w es'/\(cG es').Nodup/\(∀k',k'∈cG es'↔k'∈cG es)/\es'.size=es.size:=by
 have pk:(cG es').Perm (cG es):=List.Perm.map (λe:Int×Aj=>gv e.2) p;exact⟨λe he=>hx e (p.mem_iff.mp he),pk.nodup_iff.mpr nd,λk'=>pk.mem_iff,by have:=p.length_eq;simpa using this⟩
theorem UE{seen:List Str}(hS:jr w s.heap a seen)(hb:seen.length < 1000)
  (h:∀b h',Dj a s.heap h'->jr w h' a (seen++[k])->Q b {s with heap:=h'}):Bd (Bn prog w) A (setAddHashed a (.str k tk) (hashStr w k)) Q E s:=by
 obtain⟨es,ep,t,T,hx,nd,hm,hl⟩:=hS;obtain⟨o,ho,hex,hd⟩:=T.obj;have hel:ElemsOf (Ec prog w) es.toList:=hx.elems;have hsz:es.size < scanBound:=by unfold scanBound;omega
 have hkey:(Ec prog w).is k (.str k tk)=ah:=by simp[Ec,Value.isStrOf]
 unfold setAddHashed setAddHashedIn;refine Dv (Ad (Fz ho hd T.fits ?_));dsimp only;rw[byScan_of (knd:=Ec prog w) (x:=.str k tk) rfl hsz hel];simp only[↓reduceIte];unfold setAddByScan;refine Ad (Ad (Gz (Ad (wpAny_setScan_of (knd:=Ec prog w) (k:=k) hkey ho hd T.fits hel ?_))));cases hr:es.toList.findIdx? (λe=>(Ec prog w).is k e.2)with
 |some j=>
  dsimp only;obtain⟨hj,hpj,_⟩:=List.findIdx?_eq_some_iff_getElem.mp hr;have hk:k∈cG es:=by
   obtain⟨u,hu⟩:=Value.isStrOf_shape hpj;exact Bi.mpr ⟨es.toList[j],F1 hj,by rw[hu];rfl⟩
  refine Ap (Ap (h _ s.heap (Heap.SameBut.refl a s.heap) ⟨es,ep,t,T,hx,nd,λk'=>?_,by rw[Ah];omega⟩));rw[hm k',Ax,Au];exact⟨.inl,λz=>z.elim id λe=>e▸(hm k).mp hk⟩
 |none=>
  dsimp only;have hk:k∉cG es:=λz=>by
   obtain⟨e,he,e2⟩:=Bi.mp z;obtain⟨k',t',e3,_⟩:=hx e he;have q:=List.findIdx?_eq_none_iff.mp hr e he;rw[e3]at e2 q;have e2:k'=k:=e2;subst e2;simp[Ec,Value.isStrOf]at q
  have hgw:∀(b:Bool){s₁:Ao}{Q':Unit->Ao->Prop},Q' () s₁->Bd (Bn prog w) A (match b with|true=>rule "set.scan.the-table-gave-way"|false=>pure ()) Q' E s₁:=
   λb s₁ Q' hq=>by cases b with
    |true=>exact Gz hq
    |false=>exact Ap hq
  have hp:=layNew_perm t es (hashStr w k) (.str k tk);have hf:=layNew_fits t es (hashStr w k) (.str k tk);have hle:=Uy t es (hashStr w k) (.str k tk);have eh:(Ec prog w).hash k=hashStr w k:=rfl
  try rw[eh]
  generalize layNew t es (hashStr w k) (.str k tk)=L at hp hf hle ⊢;obtain⟨es1,t1,wd,gave⟩:=L;dsimp only at hp hf hle ⊢;rw[Array.toList_push]at hp;obtain⟨x1,n1,m1,l1,z1⟩:=YZ hx nd hm hl hk hp;refine Ad (hgw _ ?_)
  split
  ·refine Ad ?_;rw[hashByValue_scannable 8 rfl];refine Ap ?_;have hpl:({t1 with plain:=ai}:Ff).plain=ai:=rfl;have hft:({t1 with plain:=ai}:Ff).fits es1.size=ah:=SetTable.fits_plain_off hf;have hld:({t1 with plain:=ai}:Ff).led=t.led:=hle;simp only[plainKind,Cb,↓reduceIte];generalize({t1 with plain:=ai}:Ff)=t2 at hpl hft hld ⊢;have hb1:es1.size < scanBound:=by unfold scanBound;omega
   refine Ad (wpAny_storeSet_of ho hd ?_ (fits_of_scanBound hb1));have g1:(s.heap.update a (Et es1 t2)).get? a=ae {o with data:=.set es1 (ep+1) t2}:=by
    have:=Ca (Et es1 t2) ho (by rw[putSet_of es1 t2 hd];rfl);rw[putSet_of es1 t2 hd]at this;exact this
   have sb1:=Bv s.heap a (Et es1 t2)
   split
   ·have hp2:=relayAll_perm t2 es1 (Er es1.size);have hf2:=relayAll_fits t2 es1 (Er es1.size);obtain⟨hl2,hq2⟩:=Ht t2 es1 (Er es1.size);generalize relayAll t2 es1 (Er es1.size)=R at hp2 hf2 hl2 hq2 ⊢;obtain⟨es2,t3,gave2⟩:=R;dsimp only at hp2 hf2 hl2 hq2 ⊢;obtain⟨x2,n2,m2,z2⟩:=Ls x1 n1 hp2;refine Ad (hgw _ ?_);refine Ad (wpAny_storeSet_of g1 rfl ?_ (fits_of_scanBound (by rw[z2];exact hb1)));have g2:((s.heap.update a (Et es1 t2)).update a (Et es2 t3)).get? a=ae {o with data:=.set es2 (ep+1+1) t3}:=by
     have:=Ca (Et es2 t3) g1 (by rw[putSet_of es2 t3 rfl];rfl);rw[putSet_of es2 t3 rfl]at this;exact this
    refine Ap (Ap (h _ _ (sb1.trans (Bv _ a _)) ⟨es2,ep+1+1,t3,⟨⟨_,g2,hex,rfl⟩,hf2,by rw[hl2,hld];exact T.led,λz=>?_⟩,x2,n2,λk'=>(m2 k').trans (m1 k'),by rw[z2];exact l1⟩));have:=hq2 z;rw[hpl]at this;cases this
   ·refine Ap (Ap (h _ _ sb1 ⟨es1,ep+1,t2,⟨⟨_,g1,hex,rfl⟩,hft,by rw[hld];exact T.led,λz=>?_⟩,x1,n1,m1,l1⟩));rw[hpl]at z;cases z
  ·rename_i hpl0;have hpl:t1.plain=ai:=by simpa using hpl0
   have hft:=hf;have hld:=hle;refine Ad (Ap ?_);simp only[↓reduceIte];clear hf hle hpl0;generalize t1=t2 at hpl hft hld ⊢;have hb1:es1.size < scanBound:=by unfold scanBound;omega
   refine Ad (wpAny_storeSet_of ho hd ?_ (fits_of_scanBound hb1));have g1:(s.heap.update a (Et es1 t2)).get? a=ae {o with data:=.set es1 (ep+1) t2}:=by
    have:=Ca (Et es1 t2) ho (by rw[putSet_of es1 t2 hd];rfl);rw[putSet_of es1 t2 hd]at this;exact this
   have sb1:=Bv s.heap a (Et es1 t2)
   split
   ·have hp2:=relayAll_perm t2 es1 (Er es1.size);have hf2:=relayAll_fits t2 es1 (Er es1.size);obtain⟨hl2,hq2⟩:=Ht t2 es1 (Er es1.size);generalize relayAll t2 es1 (Er es1.size)=R at hp2 hf2 hl2 hq2 ⊢;obtain⟨es2,t3,gave2⟩:=R;dsimp only at hp2 hf2 hl2 hq2 ⊢;obtain⟨x2,n2,m2,z2⟩:=Ls x1 n1 hp2;refine Ad (hgw _ ?_);refine Ad (wpAny_storeSet_of g1 rfl ?_ (fits_of_scanBound (by rw[z2];exact hb1)));have g2:((s.heap.update a (Et es1 t2)).update a (Et es2 t3)).get? a=ae {o with data:=.set es2 (ep+1+1) t3}:=by
     have:=Ca (Et es2 t3) g1 (by rw[putSet_of es2 t3 rfl];rfl);rw[putSet_of es2 t3 rfl]at this;exact this
    refine Ap (Ap (h _ _ (sb1.trans (Bv _ a _)) ⟨es2,ep+1+1,t3,⟨⟨_,g2,hex,rfl⟩,hf2,by rw[hl2,hld];exact T.led,λz=>?_⟩,x2,n2,λk'=>(m2 k').trans (m1 k'),by rw[z2];exact l1⟩));have:=hq2 z;rw[hpl]at this;cases this
   ·refine Ap (Ap (h _ _ sb1 ⟨es1,ep+1,t2,⟨⟨_,g1,hex,rfl⟩,hft,by rw[hld];exact T.led,λz=>?_⟩,x1,n1,m1,l1⟩));rw[hpl]at z;cases z
def jn(ks:List Str)(i:Nat)(v:Aj):Prop:=∃k t,ks[i]?=ae k/\v=.str k t
theorem US{St:Nat->Ao->Prop}(W:WalksS prog w A.in1 I fp wr G n (jn ks) St)(S)(hSf:S∉fp)(hn:ks.length=n)(hb:n < 64):
  ∀(m i:Nat)(s:Ao),n-i=m->i<=n->St i s->jr w s.heap S (ks.take i)->
   (∀s',Moved (S::wr) G s s'->jr w s'.heap S ks->R (.ok (.ret .none)) s')->Gs (Bn prog w) A (.builtin "set.update.loop" ⟨[.ref S,.ref I],[]⟩) R s:=by
 have hSw:S∉wr:=λh=>hSf (W.sub _ h);have hsub:∀b∈wr,b∈S::wr:=λb hb=>Af _ hb;have mv:∀{h h':Heap}{seen:List Str},(∀o,h.get? S=ae o->h'.get? S=ae o)->jr w h S seen->jr w h' S seen:=λk x=>by
  obtain⟨es,ep,t,T,r⟩:=x;exact⟨es,ep,t,T.move k,r⟩
 intro m
 induction m with
 |zero=>
  intro i s hk hi hst hS hR;have hin:i=n:=by omega
  subst hin;refine Gj Ij ?_;rw[Fu xw _];show Bd _ A.in1 (E5 (.ref I)>>=_) _ _ s;refine Ad (W.done s _ _ hst λs' hm=>?_);show Bd _ A.in1 (ret B1) _ _ s';rw[<-hn,F0]at hS;exact Ap (hR s' (hm.mono hsub) (mv (λo e=>hm.heap S _ hSw e) hS))
 |succ m ih=>
  intro i s hk hi hst hS hR;have hlt:i < n:=by omega
  refine Gj Ij ?_;rw[Fu xw _];show Bd _ A.in1 (E5 (.ref I)>>=_) _ _ s;refine Ad (W.item i s _ _ hlt hst λv s' hP hst' hm=>?_);obtain⟨k,t,hk1,rfl⟩:=hP;have hS':=mv (λo e=>hm.heap S _ hSw e) hS;show Bd _ A.in1 (holding [D7 k t] (setAdd S (.str k t))>>=_) _ _ s';refine Ad (Dv ?_);unfold setAdd;refine Dv ?_;refine Ad (wpAny_pyHash_str ?_);refine UE (s:={ s' with toks:=s'.toks+1}) hS' (by rw[E1];omega) λb h' hsb hS2=>?_;have et:ks.take i++[k]=ks.take (i+1):=by
   rw[List.take_add_one,hk1];rfl
  rw[et]at hS2;refine Ap ⟨plainId_quiet xw _,ih (i+1) _ ⋯ hlt (W.frame _ s' _ _ hst' (Nat.le_succ _) λb hb o e=>?_) hS2 λs'' hm'' hS''=>?_⟩
  ·rw[hsb.2 b (λh:b=S=>hSf (by rw[<-h];exact hb))];exact e
  ·refine hR s'' (Moved.trans W.gtrans ((hm.mono hsub).then_heap (Nat.le_succ _) λb o hb e=>?_) hm'') hS'';rw[hsb.2 b (λh:b=S=>hb (by rw[h];exact Ae))];exact e
end
theorem slot_setit_next:Slot "set_iterator" "__next__" "set_iterator.__next__":=Slot.of (owner:="set_iterator") (n:="__next__") (by rw[typeLookup_type,builtinLookup_eq_fast];kernel_rfl)
 ∅ ∅ ∅ (by first|exact .inl ∅|exact .inr ∅) (by rw[F8];kernel_rfl)
theorem m7:entryFor table "set_iterator.__next__"=ae Ez.«set_iterator.__next__»:=entryFor_of_tree (by kernel_rfl)
theorem m5(a):argsOk "set_iterator.__next__" ⟨[a],[]⟩:=by unfold argsOk;kernel_rfl
theorem CN:Slot "set_iterator" "__iter__" "set_iterator.__iter__":=Slot.of (owner:="set_iterator") (n:="__iter__") (by rw[typeLookup_type,builtinLookup_eq_fast];kernel_rfl)
 ∅ ∅ ∅ (by first|exact .inl ∅|exact .inr ∅) (by rw[F8];kernel_rfl)
theorem W6:entryFor table "set_iterator.__iter__"=ae Ez.«dict_keyiterator.__iter__»:=by exact entryFor_alias (id':="dict_keyiterator.__iter__") (by kernel_rfl) rfl ∅ (by kernel_rfl)
theorem MH(a):argsOk "set_iterator.__iter__" ⟨[a],[]⟩:=by unfold argsOk;kernel_rfl
theorem Yq:entryFor table "set.__iter__"=ae Ez.«frozenset.__iter__»:=by exact entryFor_alias (id':="frozenset.__iter__") (by kernel_rfl) rfl ∅ (by kernel_rfl)
def SetIt(h:Heap)(I:Addr)(first:Aj)(i:Nat)(a:Addr)(n ep:Nat):Prop:=∃o,h.get? I=ae o/\o.cls=.type "set_iterator"/\o.data=.fields #[first,.int i 0,.ref a,.int n 0,.int ep 0]
section
variable{prog:Bs}{w:B5}{A:Cj}{E:Aj->Ao->Prop}{s:Ao}{I a T:Addr}{n ep i j:Nat}{es:Array (Int×Aj)}{t:Ff}{first:Aj}
theorem SetIt.typeIs(x:SetIt s.heap I first i a n ep):s.TypeIs (.ref I) "set_iterator":=let⟨o,e,c,_⟩:=x;⟨o,e,c⟩
theorem SetIt.move(x:SetIt h I first i a n ep)(k:∀o,h.get? I=ae o->h'.get? I=ae o):SetIt h' I first i a n ep:=let⟨o,e,r⟩:=x;⟨o,k o e,r⟩
theorem nV(hit:SetIt s.heap I first i a n ep)(h:Q (.ref I) s):Bd (Bn prog w) A (pyIter (.ref I)) Q E s:=by
 refine wpAny_pyIter_slot hit.typeIs CN (Cp CN hit.typeIs W6 ?_ (MH _));show Bd _ _ (ret (.ref I)) _ _ s;exact Ap ⟨_,rfl,"set_iterator",_,hit.typeIs,slot_setit_next.lookup,h⟩
theorem Qm(hit:SetIt s.heap I (.ref T) i a n ep)(hs:SetTb w s.heap a es ep t)(hn:es.size=n)(hT:s.heap.IsTuple T pl)(hp:pl[i]?=ae (.int j 0))(hx:es[j]?=ae x)
  (hQ:∀h',SetIt h' I (.ref T) (i+1) a n ep->Dj I s.heap h'->Q (ae x.2) {s with heap:=h'}):Bd (Bn prog w) A (E5 (.ref I)) Q E s:=by
 obtain⟨o,ho,hc,hd⟩:=id hit;obtain⟨oa,hoa,_,hda⟩:=hs.obj;obtain⟨ol,hol,_,nl,hdl⟩:=hT;unfold E5;refine Ad (E3 (B9 (name:=Bt "__next__") hit.typeIs slot_setit_next (Cp slot_setit_next hit.typeIs m7 ?_ (m5 _))));refine Ad (Ap ?_);refine Ad (Gr ho hd ?_);dsimp only;refine Ad (Eh hoa hda hs.fits ?_);rw[if_neg (by rw[hn];simp)];refine Ad (Dd hol hdl ?_);simp only[B6,hp];refine Ad ?_;unfold setNextDrawn;refine Ad (Fz hoa hda hs.fits ?_);simp only[B6,bne_self_eq_false,Cb,if_false,hx];refine Ap ?_;refine Ad (Dx ho hd (by simp) (Ap ⟨x.2,rfl,Ap (hQ _ ?_ (Bv ..))⟩));exact⟨_,Ca _ ho (Dy (Co hd _)),(Ft ..).trans hc,by
  rw[Co hd];simp[De]⟩
theorem P7(hh:A.handled=af)(hit:SetIt s.heap I (.ref T) i a n ep)(hs:SetTb w s.heap a es ep t)(hn:es.size=n)(hT:s.heap.IsTuple T pl)(hp:pl[i]?=af)
  (hQ:∀h',Heap.ExtBut I s.heap h'->Q af {s with heap:=h'}):Bd (Bn prog w) A (E5 (.ref I)) Q E s:=by
 obtain⟨ol,hol,_,nl,hdl⟩:=hT;obtain⟨o,ho,hc,hd⟩:=id hit;obtain⟨oa,hoa,_,hda⟩:=hs.obj;unfold E5;refine Ad (E3 (B9 (name:=Bt "__next__") hit.typeIs slot_setit_next (Cp slot_setit_next hit.typeIs m7 ?_ (m5 _))));refine Ad (Ap ?_);refine Ad (Gr ho hd ?_);dsimp only;refine Ad (Eh hoa hda hs.fits ?_);rw[if_neg (by rw[hn];simp)];refine Ad (Dd hol hdl ?_);simp only[B6,hp];refine Ad (Dx ho hd (by simp) ?_);have ho2:=Ca (Obj.mapFields (·.setIfInBounds 0 (De 0))) ho (Dy (Co hd _));have hd2:=Co hd (·.setIfInBounds 0 (De 0));refine Ad (Dx ho2 hd2 (by simp) ?_);refine Ad ?_;simp only[newExc,newTuple];refine Ad (Cc ?_ (by size_fits));refine Ad (m:=Fc _ _) (wpAny_of_eq (a:=B1) (by first|rfl|(simp only[Fc];rfl)) ?_);refine Cc ?_ (by size_fits);simp only[raiseNew];refine Ad (wpAny_handled ?_)
 first|rw[show A.in1.handled=af from hh]|rw[hh]
 refine Ad (Ap (wpAny_throw ?_));refine Ad (Gb (T:="StopIteration") (b:=ah) ⟨_,Ba _ rfl,rfl⟩ isSubtype_stop ?_);exact Ap (hQ _ (((((Bv ..).trans (Bv ..)).extBut).push _).push _))
def kK(w:B5)(a:Addr)(ep:Nat)(es:Array (Int×Aj)):Array (Int×Aj):=pickOrder (w.params.setOrder a ep) es
theorem HA(hb:dq w=ah)(hs:SetTb w s.heap a es ep t)(h:Q (((kK w a ep es)[i]?).map λe=>(e.2,k)) s):Bd (Bn prog w) A (setNext a k i ep) Q E s:=by
 obtain⟨oa,hoa,_,hda⟩:=hs.obj;unfold setNext;refine Ad (Fz hoa hda hs.fits ?_);dsimp only;refine Ad (qX ?_);rw[hb];simp only[↓reduceIte,bne_self_eq_false,Cb,if_false];refine Ad ?_;unfold setWalk;refine Ad (Fz hoa hda hs.fits ?_);dsimp only;refine Ad (qX ?_);rw[hb];simp only[↓reduceIte];refine Ad (wpAny_askSetting (Ap (Ap h)))
theorem XR(hb:dq w=ah)(hit:SetIt s.heap I (.int 0 0) i a n ep)(hs:SetTb w s.heap a es ep t)(hn:es.size=n)(hx:(kK w a ep es)[i]?=ae x)
  (hQ:∀h',SetIt h' I (.int 0 0) (i+1) a n ep->Dj I s.heap h'->Q (ae x.2) {s with heap:=h'}):Bd (Bn prog w) A (E5 (.ref I)) Q E s:=by
 obtain⟨o,ho,hc,hd⟩:=id hit;obtain⟨oa,hoa,_,hda⟩:=hs.obj;unfold E5;refine Ad (E3 (B9 (name:=Bt "__next__") hit.typeIs slot_setit_next (Cp slot_setit_next hit.typeIs m7 ?_ (m5 _))));refine Ad (Ap ?_);refine Ad (Gr ho hd ?_);dsimp only;refine Ad (Eh hoa hda hs.fits ?_);rw[if_neg (by rw[hn];simp)];refine Ad (HA hb hs ?_);simp only[B6,hx,Option.map_some];refine Ad (Dx ho hd (by simp) ?_);have ho2:=Ca (Obj.mapFields (·.setIfInBounds 0 (De ((0:Int).toNat:Nat)))) ho (Dy (Co hd _));have hd2:=Co hd (·.setIfInBounds 0 (De ((0:Int).toNat:Nat)));refine Ad (Dx ho2 hd2 (by simp) (Ap ⟨x.2,rfl,Ap (hQ _ ?_ ((Bv ..).trans (Bv ..)))⟩));exact⟨_,Ca _ ho2 (Dy (Co hd2 _)),(Ft ..).trans ((Ft ..).trans hc),by
  rw[Co hd2];simp[De]⟩
theorem Wu(hh:A.handled=af)(hb:dq w=ah)(hit:SetIt s.heap I (.int 0 0) i a n ep)(hs:SetTb w s.heap a es ep t)(hn:es.size=n)(hx:(kK w a ep es)[i]?=af)
  (hQ:∀h',Heap.ExtBut I s.heap h'->Q af {s with heap:=h'}):Bd (Bn prog w) A (E5 (.ref I)) Q E s:=by
 obtain⟨o,ho,hc,hd⟩:=id hit;obtain⟨oa,hoa,_,hda⟩:=hs.obj;unfold E5;refine Ad (E3 (B9 (name:=Bt "__next__") hit.typeIs slot_setit_next (Cp slot_setit_next hit.typeIs m7 ?_ (m5 _))));refine Ad (Ap ?_);refine Ad (Gr ho hd ?_);dsimp only;refine Ad (Eh hoa hda hs.fits ?_);rw[if_neg (by rw[hn];simp)];refine Ad (HA hb hs ?_);simp only[B6,hx,Option.map_none];refine Ad (Dx ho hd (by simp) ?_);refine Ad ?_;simp only[newExc,newTuple];refine Ad (Cc ?_ (by size_fits));refine Ad (m:=Fc _ _) (wpAny_of_eq (a:=B1) (by first|rfl|(simp only[Fc];rfl)) ?_);refine Cc ?_ (by size_fits);simp only[raiseNew];refine Ad (wpAny_handled ?_)
 first|rw[show A.in1.handled=af from hh]|rw[hh]
 refine Ad (Ap (wpAny_throw ?_));refine Ad (Gb (T:="StopIteration") (b:=ah) ⟨_,Ba _ rfl,rfl⟩ isSubtype_stop ?_);exact Ap (hQ _ (((Bv ..).extBut.push _).push _))
theorem Jh(hb:dq w=ai)(h1:es.size<=1)(hs:SetTb w s.heap a es ep t)
  (h:Q (match es[Es t.place k]?,t.place[Es t.place k]? with
   |some (_,x),ae j=>ae (x,j+1)
   |_,_=>af) s):Bd (Bn prog w) A (setNext a k i ep) Q E s:=by
 obtain⟨oa,hoa,_,hda⟩:=hs.obj;have hl:t.led=ah:=by rw[hs.led,hb];rfl
 unfold setNext;refine Ad (Fz hoa hda hs.fits ?_);dsimp only;refine Ad (qX ?_);rw[hb];simp only[Cb,↓reduceIte];have hd:(!t.plain&&decide (es.size > 1))=ai:=by
  have:decide (es.size > 1)=ai:=decide_eq_false ⋯;rw[this,Gm]
 split
 ·rename_i z;have z':(!t.plain&&decide (es.size > 1))=ah:=z;rw[hd]at z';cases z'
 ·refine Ad (wpAny_of_eq (a:=()) ?_ (Ap h));show(if (!t.led&&!es.isEmpty)=ah then unsupported "set:maker-not-led" else pure ())=pure ();rw[hl];rfl
theorem CG:Es #[j] 0=0/\Es #[j] (j+1)=1:=by
 constructor
 ·simp[Es,SetTable.below.go]
 ·simp[Es,SetTable.below.go]
theorem PQ(hb:dq w=ai)(hp:t.place=#[j])(he:es=#[x])(hit:SetIt s.heap I (.int 0 0) 0 a 1 ep)(hs:SetTb w s.heap a es ep t)
  (hQ:∀h',SetIt h' I (.int ((j+1:Nat):Int) 0) 1 a 1 ep->Dj I s.heap h'->Q (ae x.2) {s with heap:=h'}):Bd (Bn prog w) A (E5 (.ref I)) Q E s:=by
 have hn:es.size=1:=by rw[he];rfl
 obtain⟨o,ho,hc,hd⟩:=id hit;obtain⟨oa,hoa,_,hda⟩:=hs.obj;unfold E5;refine Ad (E3 (B9 (name:=Bt "__next__") hit.typeIs slot_setit_next (Cp slot_setit_next hit.typeIs m7 ?_ (m5 _))));refine Ad (Ap ?_);refine Ad (Gr ho hd ?_);dsimp only;refine Ad (Eh hoa hda hs.fits ?_);rw[if_neg (by rw[hn];simp)];refine Ad (Jh hb ⋯ hs ?_);have b1:Es t.place (0:Int).toNat=0:=by rw[hp];exact CG.1
 rw[b1,hp,he];show Bd _ _ (setField (.ref I) 0 (De ((j+1:Nat):Int))>>=_) _ _ _;refine Ad (Dx ho hd (by simp) ?_);have ho2:=Ca (Obj.mapFields (·.setIfInBounds 0 (De ((j+1:Nat):Int)))) ho (Dy (Co hd _));have hd2:=Co hd (·.setIfInBounds 0 (De ((j+1:Nat):Int)));refine Ad (Dx ho2 hd2 (by simp) (Ap ⟨x.2,rfl,Ap (hQ _ ?_ ((Bv ..).trans (Bv ..)))⟩));exact⟨_,Ca _ ho2 (Dy (Co hd2 _)),(Ft ..).trans ((Ft ..).trans hc),by
  rw[Co hd2];simp[De]⟩
theorem Kq(hh:A.handled=af)(hb:dq w=ai)(h1:es.size<=1)(hk:es[Es t.place k]?=af)(hit:SetIt s.heap I (.int (k:Int) 0) i a n ep)(hs:SetTb w s.heap a es ep t)(hn:es.size=n)
  (hQ:∀h',Heap.ExtBut I s.heap h'->Q af {s with heap:=h'}):Bd (Bn prog w) A (E5 (.ref I)) Q E s:=by
 obtain⟨o,ho,hc,hd⟩:=id hit;obtain⟨oa,hoa,_,hda⟩:=hs.obj;unfold E5;refine Ad (E3 (B9 (name:=Bt "__next__") hit.typeIs slot_setit_next (Cp slot_setit_next hit.typeIs m7 ?_ (m5 _))));refine Ad (Ap ?_);refine Ad (Gr ho hd ?_);dsimp only;refine Ad (Eh hoa hda hs.fits ?_);rw[if_neg (by rw[hn];simp)];refine Ad (Jh hb h1 hs ?_);rw[B6,hk];dsimp only;refine Ad (Dx ho hd (by simp) ?_);refine Ad ?_;simp only[newExc,newTuple];refine Ad (Cc ?_ (by size_fits));refine Ad (m:=Fc _ _) (wpAny_of_eq (a:=B1) (by first|rfl|(simp only[Fc];rfl)) ?_);refine Cc ?_ (by size_fits);simp only[raiseNew];refine Ad (wpAny_handled ?_)
 first|rw[show A.in1.handled=af from hh]|rw[hh]
 refine Ad (Ap (wpAny_throw ?_));refine Ad (Gb (T:="StopIteration") (b:=ah) ⟨_,Ba _ rfl,rfl⟩ isSubtype_stop ?_);exact Ap (hQ _ (((Bv ..).extBut.push _).push _))
end
section
variable{prog:Bs}{w:B5}{A:Cj}{E:Aj->Ao->Prop}{s:Ao}{a:Addr}{ep:Nat}{es:Array (Int×Aj)}{t:Ff}
def kE(vs:List (Int×Aj))(i:Nat)(v:Aj):Prop:=∃e,vs[i]?=ae e/\v=e.2
structure SetWk(prog:Bs)(w:B5)(sz:Nat)(h':Heap)(a I:Addr)(vs:List (Int×Aj)):Prop where
 above:sz<=I
 walk:∃(fp:List Addr)(St:Nat->Heap->Prop),(∀b∈fp,b=a\/sz<=b)/\(∀b∈fp,b < h'.objs.size)/\(∀A:Cj,A.handled=af->Walks prog w A I fp [I] vs.length (kE vs) St)/\St 0 h'
theorem RI{α:Type}{xs:Array α}{d:α}(h:j < xs.size):xs[j]?=ae (xs.getD j d):=by
 simp[h]
theorem Pt{ys:List Nat}(hp:ys.Perm (Ce n))(hn:es.size=n):(ys.map λj=>es.getD j (0,B1)).Perm es.toList:=by
 have h1:=hp.map λj=>es.getD j ((0:Int),B1);have h2:(Ce n).map (λj=>es.getD j ((0:Int),B1))=es.toList:=by
  apply List.ext_getElem (by simp[hn]);intro i h1 h2;simp at h2;simp[h2]
 rw[h2]at h1;exact h1
theorem PZ{ys:List Nat}(hne:a≠I)(hTI:T≠I)(hp:ys.Perm (Ce n))(hn:es.size=n)(A:Cj)(hh:A.handled=af):
  Walks prog w A I [I,a,T] [I] (ys.map λj=>es.getD j (0,B1)).length (kE (ys.map λj=>es.getD j (0,B1)))
   (λi h=>SetIt h I (.ref T) i a n ep/\SetTb w h a es ep t/\h.IsTuple T (ys.map λ(j:Nat)=>Value.int (j:Int) 0).toArray) where
 sub:=λb hb=>by simp at hb;simp[hb]
 frame:=λ_ _ _ st hk=>⟨st.1.move λo e=>hk I (by simp) o e,st.2.1.move λo e=>hk a (by simp) o e,let⟨o,e,r⟩:=st.2.2;⟨o,hk T (by simp) o e,r⟩⟩
 item:=λi s Q E hi st hQ=>by
  rw[Ab]at hi;have hj:ys[i] < es.size:=by rw[hn];exact Dh.mp (hp.mem_iff.mp (F1 hi))
  refine Qm (j:=ys[i]) st.1 st.2.1 hn st.2.2 (by simp[hi]) (RI (d:=(0,B1)) hj) λh' hit' hs'=>?_;refine hQ _ h' s.toks ⟨_,by rw[Bh,Ar hi];rfl,rfl⟩ ⟨hit',st.2.1.move λo e=>(hs'.2 a hne).trans e,let⟨o,e,r⟩:=st.2.2;⟨o,(hs'.2 T hTI).trans e,r⟩⟩ λb o hb e=>hs'.extBut b o (λh=>hb (by simp[h])) e
 done:=λs Q E st hQ=>P7 hh st.1 st.2.1 hn st.2.2 (by simp) λh' he'=>hQ h' s.toks λb o hb e=>he' b o (λh=>hb (by simp[h])) e
 self:=λ_ _ _ _ st hQ=>nV st.1 hQ
theorem L4(hb:dq w=ah)(hne:a≠I)(hn:es.size=n)(A:Cj)(hh:A.handled=af):
  Walks prog w A I [I,a] [I] (kK w a ep es).toList.length (kE (kK w a ep es).toList) (λi h=>SetIt h I (.int 0 0) i a n ep/\SetTb w h a es ep t) where
 sub:=λb hb=>by simp at hb;simp[hb]
 frame:=λ_ _ _ st hk=>⟨st.1.move λo e=>hk I (by simp) o e,st.2.move λo e=>hk a (by simp) o e⟩
 item:=λi s Q E hi st hQ=>by
  rw[C5]at hi;have hx:(kK w a ep es)[i]?=ae (kK w a ep es)[i]:=Ek hi;refine XR hb st.1 st.2 hn hx λh' hit' hs'=>?_;exact hQ _ h' s.toks ⟨_,by rw[Array.getElem?_toList];exact hx,rfl⟩ ⟨hit',st.2.move λo e=>(hs'.2 a hne).trans e⟩ λb o hb e=>hs'.extBut b o (λh=>hb (by simp[h])) e
 done:=λs Q E st hQ=>Wu hh hb st.1 st.2 hn (by simp) λh' he'=>hQ h' s.toks λb o hb e=>he' b o (λh=>hb (by simp[h])) e
 self:=λ_ _ _ _ st hQ=>nV st.1 hQ
theorem Yk(hb:dq w=ai)(hn:es.size=0)(A:Cj)(hh:A.handled=af):
  Walks prog w A I [I,a] [I] ([]:List (Int×Aj)).length (kE []) (λ_ h=>SetIt h I (.int ((0:Nat):Int) 0) 0 a 0 ep/\SetTb w h a es ep t) where
 sub:=λb hb=>by simp at hb;simp[hb]
 frame:=λ_ _ _ st hk=>⟨st.1.move λo e=>hk I (by simp) o e,st.2.move λo e=>hk a (by simp) o e⟩
 item:=λi s Q E hi st hQ=>by simp at hi
 done:=λs Q E st hQ=>Kq (k:=0) hh hb ⋯ (by rw[Array.getElem?_eq_none];omega) st.1 st.2 hn λh' he'=>hQ h' s.toks λb o hb e=>he' b o (λh=>hb (by simp[h])) e
 self:=λ_ _ _ _ st hQ=>nV st.1 hQ
theorem NS(hb:dq w=ai)(hne:a≠I)(he:es=#[x])(hp:t.place=#[j])(A:Cj)(hh:A.handled=af):
  Walks prog w A I [I,a] [I] [x].length (kE [x]) (λi h=>((i=0/\SetIt h I (.int 0 0) 0 a 1 ep)\/(i=1/\SetIt h I (.int ((j+1:Nat):Int) 0) 1 a 1 ep))/\SetTb w h a es ep t) where
 sub:=λb hb=>by simp at hb;simp[hb]
 frame:=λ_ _ _ st hk=>⟨st.1.imp (λz=>⟨z.1,z.2.move λo e=>hk I (by simp) o e⟩) (λz=>⟨z.1,z.2.move λo e=>hk I (by simp) o e⟩),st.2.move λo e=>hk a (by simp) o e⟩
 item:=λi s Q E hi st hQ=>by
  have hi0:i=0:=by simpa using hi
  subst hi0;rcases st.1 with⟨_,z⟩|⟨z,_⟩
  ·refine PQ hb hp he z st.2 λh' hit' hs'=>?_;exact hQ _ h' s.toks ⟨x,rfl,rfl⟩ ⟨.inr ⟨rfl,hit'⟩,st.2.move λo e=>(hs'.2 a hne).trans e⟩ λb o hb e=>hs'.extBut b o (λh=>hb (by simp[h])) e
  ·cases z
 done:=λs Q E st hQ=>by
  rcases st.1 with⟨z,_⟩|⟨_,z⟩
  ·cases z
  ·refine Kq (k:=j+1) hh hb (by rw[he];exact Ay 1) ?_ z st.2 (by rw[he];rfl) λh' he'=>hQ h' s.toks λb o hb e=>he' b o (λh=>hb (by simp[h])) e;rw[hp,CG.2,he];rfl
 self:=λi s Q E st hQ=>by
  rcases st.1 with⟨_,z⟩|⟨_,z⟩
  ·exact nV z hQ
  ·exact nV z hQ
theorem Qn(hs:SetTb w s.heap a es ep t)(h64:es.size < 64)
  (h:∀(h':Heap)(dr:Drawn)(I:Addr)(vs:List (Int×Aj)),vs.Perm es.toList->(∀b o,s.heap.get? b=ae o->h'.get? b=ae o)->SetWk prog w s.heap.objs.size h' a I vs->Q (.ref I) {s with heap:=h',drawn:=dr}):
  Bd (Bn prog w) A (pyIter (.ref a)) Q E s:=by
 obtain⟨oa,hoa,hex,hda⟩:=hs.obj;have hlt:=hs.lt;refine wpAny_pyIter_slot hs.typeIs F.slot_set_iter (Cp F.slot_set_iter hs.typeIs Yq ?_ (F.args_set_iter_1 _));refine Ad (Ap ?_);refine Ad (Ad (Eh hoa hda hs.fits (Ap ?_)));refine Ad ?_;unfold setDrawn;refine Ad (Fz hoa hda hs.fits ?_);dsimp only;refine Ad (qX ?_);refine Ap ?_
 split
 ·rename_i hd;refine Ad (IF es.size (Ce es.size) s (by simp) λys dr hp=>?_);have hly:ys.length=es.size:=by rw[hp.length_eq,List.length_range]
  refine Ad (wpAny_newTuple ?_ (by rw[Ab,hly,Eu];omega));have hoa1:=Ai ({cls:=.type "tuple",data:=.seq (ys.map λ(i:Nat)=>De i).toArray}:Obj) hoa;refine Ad (wpAny_setEpoch_of hoa1 hda hs.fits ?_);refine Ad (Cc (Ap ⟨_,rfl,"set_iterator",_,⟨_,Ba _ rfl,rfl⟩,slot_setit_next.lookup,?_⟩));have hT:(s.heap.push ({cls:=.type "tuple",data:=.seq (ys.map λ(i:Nat)=>De i).toArray}:Obj)).get? s.heap.objs.size=ae {cls:=.type "tuple",data:=.seq (ys.map λ(i:Nat)=>De i).toArray}:=Ba _ rfl;refine h _ dr _ (ys.map λj=>es.getD j (0,B1)) (Pt hp rfl) (λb o e=>Ai _ (Ai _ e)) ⟨by rw[Cs];exact Nat.le_succ _,[_,a,s.heap.objs.size],_,λb hb=>?_,λb hb=>?_,λA hh=>PZ (t:=t) (ep:=ep) (T:=s.heap.objs.size) (by rw[Cs];exact Bq (Dq hlt)) (by rw[Cs];exact Bq (Gt _)) hp rfl A hh,⟨⟨_,Ba _ rfl,rfl,rfl⟩,hs.move λo e=>Ai _ (Ai _ e),⟨_,Ai _ hT,rfl,_,rfl⟩⟩⟩
  ·simp only[Aq,Av,or_false]at hb;rcases hb with rfl|rfl|rfl
   ·rw[Cs];exact .inr (Nat.le_succ _)
   ·exact .inl rfl
   ·exact .inr (Ay _)
  ·simp only[Aq,Av,or_false]at hb;rw[Cs,Cs];rcases hb with rfl|rfl|rfl
   ·rw[Cs];exact Gt _
   ·exact Dq (Dq hlt)
   ·exact Dq (Gt _)
 ·rename_i hd;refine Ad (Ap ?_);refine Ad (wpAny_setEpoch_of hoa hda hs.fits ?_);refine Ad (Cc (Ap ⟨_,rfl,"set_iterator",_,⟨_,Ba _ rfl,rfl⟩,slot_setit_next.lookup,?_⟩));have hit:SetIt (s.heap.push {cls:=.type "set_iterator",data:=.fields #[De 0,De 0,.ref a,De es.size,De ep]}) s.heap.objs.size (.int 0 0) 0 a es.size ep:=⟨_,Ba _ rfl,rfl,rfl⟩;have hst:SetTb w (s.heap.push {cls:=.type "set_iterator",data:=.fields #[De 0,De 0,.ref a,De es.size,De ep]}) a es ep t:=hs.move λo e=>Ai _ e;have kp:∀b o,s.heap.get? b=ae o->(s.heap.push {cls:=.type "set_iterator",data:=.fields #[De 0,De 0,.ref a,De es.size,De ep]}).get? b=ae o:=λb o e=>Ai _ e;have f1:∀b∈[s.heap.objs.size,a],b=a\/s.heap.objs.size<=b:=λb hb=>by
   simp only[Aq,Av,or_false]at hb;rcases hb with rfl|rfl
   ·exact .inr (Ay _)
   ·exact .inl rfl
  have f2:∀b∈[s.heap.objs.size,a],b < (s.heap.push {cls:=.type "set_iterator",data:=.fields #[De 0,De 0,.ref a,De es.size,De ep]}).objs.size:=λb hb=>by
   simp only[Aq,Av,or_false]at hb;rw[Cs];rcases hb with rfl|rfl
   ·exact Gt _
   ·exact Dq hlt
  have hne:a≠s.heap.objs.size:=Bq hlt;cases hb:dq w with
  |true=>exact h _ s.drawn _ (kK w a ep es).toList (Qy _ _) kp ⟨Ay _,[s.heap.objs.size,a],_,f1,f2,λA hh=>L4 (t:=t) hb hne rfl A hh,⟨hit,hst⟩⟩
  |false=>
   have hd0:¬((!dq w&&(!t.plain&&decide (es.size > 1)))=ah):=hd;have hd':(!dq w&&(!t.plain&&decide (es.size > 1)))=ai:=by simpa using hd0
   have h1:es.size<=1:=by
    rw[hb]at hd';by_cases hz:es.size<=1
    ·exact hz
    ·have hg:decide (es.size > 1)=ah:=decide_eq_true ⋯;rw[hg]at hd';have hpl:t.plain=ah:=by simpa using hd'
     have:=hs.plain hpl;omega
   by_cases h0:es.size=0
   ·have e0:es.toList=[]:=E9 (by simpa using h0);refine h _ s.drawn _ [] (by rw[e0]) kp ⟨Ay _,[s.heap.objs.size,a],_,f1,f2,λA hh=>Yk (t:=t) (ep:=ep) hb h0 A hh,⟨?_,hst⟩⟩;rw[h0]at hit ⊢;exact hit
   ·have h1':es.size=1:=by omega
    obtain⟨x,hx⟩:∃x,es=#[x]:=by
     have:es.toList.length=1:=by simpa using h1'
     obtain⟨x,hx⟩:=List.length_eq_one_iff.mp this;exact⟨x,Array.toList_inj.mp hx⟩
    have hps:t.place.size=1:=by
     have:=hs.fits;simp only[SetTable.fits,Ak,beq_iff_eq]at this;rw[this.1,h1']
    obtain⟨j,hj⟩:∃j,t.place=#[j]:=by
     have:t.place.toList.length=1:=by simpa using hps
     obtain⟨x,hx⟩:=List.length_eq_one_iff.mp this;exact⟨x,Array.toList_inj.mp hx⟩
    refine h _ s.drawn _ [x] (by rw[hx]) kp ⟨Ay _,[s.heap.objs.size,a],_,f1,f2,λA hh=>NS (t:=t) (ep:=ep) hb hne hx hj A hh,⟨.inl ⟨rfl,?_⟩,hst⟩⟩;rw[h1']at hit ⊢;exact hit
end
theorem S9:entryFor table "proto.collect"=ae Ez.«proto.collect»:=entryFor_of_tree (by kernel_rfl)
theorem XE:entryFor table "list.__iadd__"=ae Ez.«list.__iadd__»:=entryFor_of_tree (by kernel_rfl)
section
variable{prog:Bs}{w:B5}{A:Cj}{E:Aj->Ao->Prop}{s:Ao}{a:Addr}{ep:Nat}{es:Array (Int×Aj)}{t:Ff}
theorem ND(hT:s.TypeIs (.ref a) "set")(h:Q ai s):Bd (Bn prog w) A (Builtin.List.listLengthHint (.ref a)) Q E s:=by
 unfold Builtin.List.listLengthHint;refine Ad (wpAny_specialOf hT F.slot_set_len.lookup ?_);generalize hid:("set.__len__":String)=id0
 wp_delta
 rw[show splitId id0=ae ("set","__len__")from by subst hid;decide +kernel];subst hid;refine Ad (Gb (T:="set") (b:=ah) hT (by rw[F8];kernel_rfl) ?_);refine wpAny_ite_split (λhab=>absurd hab ∎) (λ_=>?_);refine wpAny_ite_split (λ_=>?_) (λhab=>absurd ∅ hab);refine Ad (wpAny_typeOf hT ?_);exact Ap h
theorem Mz(hh:A.handled=af)(hs:SetTb w s.heap a es ep t)(h64:es.size < 64)(S)(hSa:S≠a)(res)(hS:s.heap.get? S=ae {cls:=.type "list",data:=.seq #[]})
  (hR:∀h' tk dr (vs:List (Int×Aj)) acc c,vs.Perm es.toList->(∀b o,b≠S->s.heap.get? b=ae o->h'.get? b=ae o)->h'.get? S=ae {cls:=.type "list",dict:=af,data:=.seq acc c,slots:=#[]}->ItemsOf (kE vs) acc vs.length->R (.ok (.ret res)) {s with heap:=h',toks:=tk,drawn:=dr}):
  Bd (Bn prog w) A.in1 (D5 (.ref S) (.ref a) res)
   (λfin s'=>match fin with|.done f=>R (.ok f) s'|.again c'=>c'.quiet=ah/\Gs (Bn prog w) A c' R s') (λe s'=>R (.error e) s') s:=by
 unfold D5;refine Ad (wpAny_typeOf (T:="set") hs.typeIs ?_);have h1:Gx (.ref S) (.ref a)=ai:=by simp[Gx,hSa]
 have h2:(D8 "set"==D8 "list")=ai:=by decide
 have h3:(D8 "set"==D8 "tuple")=ai:=by decide
 simp only[h1,h2,h3,Bool.or_false,Cb,if_false];refine Ad (Qn (A:=A.in1) hs h64 λh' dr I vs hp hk hw=>?_);obtain⟨hI,fp,St,hf1,hf2,W,st⟩:=hw;have hSlt:S < s.heap.objs.size:=A0 hS;have hSf:S∉fp:=λhm=>(hf1 S hm).elim hSa λz=>Fm _ (By hSlt z);have hS1:=hk S _ hS;have hlen:vs.length=es.size:=by rw[hp.length_eq,C5]
 have key:∀(h:Heap)(c₁ tk:Nat),St 0 h->(∀b o,b≠S->s.heap.get? b=ae o->h.get? b=ae o)->
   h.get? S=ae {cls:=.type "list",data:=.seq #[] c₁}->Gs (Bn prog w) A (.builtin "list.extend.loop" ⟨[.ref S,.ref I,res],[]⟩) R {s with heap:=h,toks:=tk,drawn:=dr}:=by
  intro h c₁ tk hst hk2 hS₁;refine codeAny_extend_loopS (W A.in1 hh).toS (by rw[hlen,Eu];omega) S hSf res vs.length 0 _ #[] c₁ rfl (Bf _) hst hS₁ (ItemsOf.nil _) λs' acc' c' hm hS' hacc=>?_;rw[Moved.eq_with hm];refine hR s'.heap s'.toks dr vs acc' c' hp (λb o hb e=>hm.heap b o (λhmem=>?_) (hk2 b o hb e)) hS' hacc;rcases Aq.mp hmem with e'|hmem
  ·exact hb e'
  ·have hbI:=Au.mp hmem;exact absurd (A0 e) (by rw[hbI];exact Nat.not_lt.mpr hI)
 refine Ad (Dv (ND (s:={ s with heap:=h',drawn:=dr}) (hs.move λo e=>hk a o e).typeIs ?_));refine wpAny_ite_split (λ_=>?_) (λ_=>Ap ⟨plainId_quiet PySem.F.plain_extend_loop _,key _ 0 _ st (λb o _ e=>hk b o e) hS1⟩);refine Ad (Gz ?_);refine Ad ?_;show Bd _ _ (updateSeq S (·.push .none)>>=λ_=>updateSeq S (·.pop)) _ _ _;refine Ad (wpAny_updateSeq hS1 rfl ?_);have hS₂:=Ca (C7 (·.push B1)) hS1 rfl;refine wpAny_updateSeq (hz:=by seq_fits) hS₂ rfl ?_;have hS₃:=Ca (C7 (·.pop)) hS₂ rfl;refine Ap ⟨plainId_quiet PySem.F.plain_extend_loop _,key _ _ _ ?_ (λb o hb e=>?_) hS₃⟩
 ·refine(W A hh).frame 0 _ _ st λb hb o e=>?_;have hbS:b≠S:=λh=>hSf (h▸hb);exact(Ed _ _ (Ne.symm hbS)).trans ((Ed _ _ (Ne.symm hbS)).trans e)
 ·exact(Ed _ _ (Ne.symm hb)).trans ((Ed _ _ (Ne.symm hb)).trans (hk b o e))
theorem K7(h:ItemsOf (kE vs) acc vs.length):acc.toList=vs.map (·.2):=by
 apply List.ext_getElem?;intro i;by_cases hi:i < vs.length
 ·have hi2:i < acc.size:=by rw[h.1];exact hi
  obtain⟨e,e1,e2⟩:=h.2 i acc[i] (Ek hi2);rw[Bh,e1,Array.getElem?_toList,Ek hi2,e2];rfl
 ·rw[Fn (by rw[C5,h.1];omega),Fn (by rw[Ab];omega)]
theorem WQ(hh:A.handled=af)(hs:SetTb w s.heap a es ep t)(h64:es.size < 64)
  (h:∀(h':Heap)(tk:Nat)(dr:Drawn)(vs:List (Int×Aj)),vs.Perm es.toList->(∀b o,s.heap.get? b=ae o->h'.get? b=ae o)->R (vs.map (·.2)) {s with heap:=h',toks:=tk,drawn:=dr}):
  Bd (Bn prog w) A (collect (.ref a)) R E s:=by
 unfold collect;refine Ad (wpAny_runValue (Gj S9 ?_));rw[Fu PySem.F.plain_proto_collect _];show Bd _ A.in1 (newList []>>=λl=>again (.builtin "list.__iadd__" ⟨[l,.ref a],[]⟩)) _ _ s;refine Ad (Cc ?_);refine Ap ⟨plainId_quiet PySem.F.plain_list_iadd _,Gj XE ?_⟩;rw[Fu PySem.F.plain_list_iadd _];have hS₁:(s.heap.push {cls:=.type "list",data:=.seq ([]:List Aj).toArray}).get? s.heap.objs.size=ae {cls:=.type "list",data:=.seq #[]}:=Ba _ rfl;show Bd _ A.in1 (D5 (.ref s.heap.objs.size) (.ref a) (.ref s.heap.objs.size)) _ _ _;have key:=Mz (prog:=prog) (A:=A) (s:={ s with heap:=s.heap.push {cls:=.type "list",data:=.seq ([]:List Aj).toArray}})
  (R:=λ(q:Result)(s':Ao)=>∃(h':Heap)(tk:Nat)(dr:Drawn)(vs:List (Int×Aj))(acc':Array Aj)(c':Nat),q=.ok (.ret (.ref s.heap.objs.size))/\s'={ s with heap:=h',toks:=tk,drawn:=dr}/\vs.Perm es.toList /\
   (∀b o,s.heap.get? b=ae o->h'.get? b=ae o)/\h'.get? s.heap.objs.size=ae {cls:=.type "list",dict:=af,data:=.seq acc' c',slots:=#[]}/\ItemsOf (kE vs) acc' vs.length)
  hh (hs.move λo e=>Ai _ e) h64 s.heap.objs.size (Ef hs.lt) (.ref s.heap.objs.size) hS₁
  (λh' tk dr vs acc' c' hp hk hS' hacc=>⟨h',tk,dr,vs,acc',c',rfl,rfl,hp,λb o e=>hk b o (Bq (A0 e)) (Ai _ e),hS',hacc⟩)
 refine Dn key (λfin s' x=>?_) λe s' x=>?_
 ·cases fin with
  |done f=>
   obtain⟨h',tk,dr,vs,acc',c',e,rfl,hp,hk,hS',hacc⟩:=x;cases e;show Bd _ A (load s.heap.objs.size>>=_) _ _ _;refine Ad (wpAny_load hS' ?_);refine Ap ?_;rw[K7 hacc];exact h h' tk dr vs hp hk
  |again c₁=>
   refine⟨x.1,codeAny_mono x.2 λq s₂ y=>?_⟩;obtain⟨h',tk,dr,vs,acc',c',rfl,rfl,hp,hk,hS',hacc⟩:=y;show Bd _ A (load s.heap.objs.size>>=_) _ _ _;refine Ad (wpAny_load hS' ?_);refine Ap ?_;rw[K7 hacc];exact h h' tk dr vs hp hk
 ·obtain⟨_,_,_,_,_,_,z,_⟩:=x;cases z
end
def eC(w:B5):Obj:={ cls:=.type "set",dict:=af,data:=.set #[] 0 (.fresh 0 0 (!dq w))}
section
variable{prog:Bs}{w:B5}{A:Cj}{E:Aj->Ao->Prop}{s:Ao}
theorem Sb(e:h.get? a=ae (eC w)):jr w h a []:=
 ⟨#[],0,.fresh 0 0 (!dq w),⟨⟨_,e,⟨rfl,rfl,rfl⟩,rfl⟩,rfl,rfl,λ_=>rfl⟩,λe he=>by simp at he,List.Pairwise.nil,λk=>by simp[cG],Ay _⟩
theorem MN(a)(h:Q₁ (.ref s.heap.objs.size) {s with heap:=s.heap.push (eC w)}):
  Gs (Bn prog w) A (.call (.builtin "set.__new__") ⟨[.type "set",a],[]⟩) (wants Q₁ E) s:=by
 refine codeAny_of_tree ?_;show Bd _ A.in1 (do checkBuiltinCall "set.__new__" ⟨[.type "set",a],[]⟩;again (.builtin "set.__new__" ⟨[.type "set",a],[]⟩)) _ _ s;refine Ad (wpAny_of_eq (F.newCall_set_1 a) (Ap ⟨plainId_quiet F.plain_set_new _,Gj F.entry_set_new ?_⟩));rw[Fu F.plain_set_new _];unfold Ez.«set.__new__» Builtin.Frozenset.newClass;have hsub:=sub_set_self;obtain⟨hp,g,d,tk,os⟩:=s;dsimp only
 wp_walk
 refine wpAny_askSetting (Ap ?_);dsimp only;simp only[newObj];exact Ad (wpAny_alloc (Ap (Ap h)))
structure TxSrc(prog:Bs)(w:B5)(T:String)(x:Addr)(ks:List Str)(OK:Heap->Prop):Prop where
 type:∀s:Ao,OK s.heap->s.TypeIs (.ref x) T
 there:∀h:Heap,OK h->x < h.objs.size
 keep:∀h h':Heap,OK h->(∀o,h.get? x=ae o->h'.get? x=ae o)->OK h'
 notSet:isSubtype (.type T) (.type "set")=pure ai
 notFrozen:isSubtype (.type T) (.type "frozenset")=pure ai
 notDict:(D8 T==D8 "dict")=ai
 iter:∀s:Ao,OK s.heap->∃(oI:Obj)(St:Nat->Heap->Prop),
  (∀(A:Cj)(E:Aj->Ao->Prop)(Q:Aj->Ao->Prop),Q (.ref s.heap.objs.size) {s with heap:=s.heap.push oI}->Bd (Bn prog w) A (pyIter (.ref x)) Q E s) /\
  (∀A:Cj,A.handled=af->Walks prog w A s.heap.objs.size [s.heap.objs.size,x] [s.heap.objs.size] ks.length (jn ks) St)/\St 0 (s.heap.push oI)
set_option maxHeartbeats 3200000 in
theorem Kw(K:TxSrc prog w T x ks OK)(hh:A.handled=af)(hok:OK s.heap)(h64:ks.length < 64)
  (h:∀(h':Heap)(tk:Nat),jr w h' s.heap.objs.size ks->(∀b o,b < s.heap.objs.size->s.heap.get? b=ae o->h'.get? b=ae o)->Q (.ref s.heap.objs.size) {s with heap:=h',toks:=tk}):
  Bd (Bn prog w) A (call (.type "set") [.ref x]) Q E s:=by
 obtain⟨c,tl,hmro⟩:=F.called_set.mro;have hmade:=F.called_set.made;have hsub:=F.called_set.sub;refine wpAny_call (codeAny_of_tree ?_);show Bd _ _ (callAny (.type "set") _) _ _ _;refine Ap ⟨Code.quiet_builtin _ ∅,Gj F.entry_type_call ?_⟩;rw[Around.under_plain (weight_type_call_type "set" [.ref x] []) rfl];have h1:=F.called_set.notType;have h2:=F.called_set.canCreate;have hct:=F.typeCall_set_1 (.ref x)
 repeat (any_goals (first|assumption|wp_step))
 refine codeAny_mono (MN (.ref x) (E:=E) (Q₁:=λobj s₁=>obj=.ref s.heap.objs.size/\s₁={ s with heap:=s.heap.push (eC w)}) ⟨rfl,rfl⟩) λr s₁ hr=>?_;cases r with
 |error e=>exact hr
 |ok fl=>
  cases fl with
  |ret obj=>
   obtain⟨rfl,rfl⟩:=hr;have hS:(s.heap.push (eC w)).get? s.heap.objs.size=ae (eC w):=Ba _ rfl;have hT:Shared.TypeIs {s with heap:=s.heap.push (eC w)} (.ref s.heap.objs.size) "set":=⟨_,hS,rfl⟩;have hli:=F.called_set.init.lookup;have hbi:=F.called_set.init.bind (.ref s.heap.objs.size)
   repeat (any_goals (first|assumption|wp_step))
   refine codeAny_mono (codeAny_call_builtin (R:=wants (λr s₂=>r=.none/\∃h' tk,s₂={ s with heap:=h',toks:=tk}/\jr w h' s.heap.objs.size ks /\
     (∀b o,b < s.heap.objs.size->s.heap.get? b=ae o->h'.get? b=ae o)) E) F.called_set.init.plain F.entry_set_init (check_set_init_1 hT ?_)) λr₂ s₂ hr₂=>?_
   ·have hok1:OK (s.heap.push (eC w)):=K.keep _ _ hok λo e=>Ai _ e;have hTx:Shared.TypeIs {s with heap:=s.heap.push (eC w)} (.ref x) T:=K.type {s with heap:=s.heap.push (eC w)} hok1;have hsls:=K.notSet;have hslf:=K.notFrozen;have hne:=K.notDict;unfold Ez.«set.__init__» noKeywords Builtin.Frozenset.updateFrom;generalize hPI:pyIter=PI
    wp_walk
    subst hPI;have hh3:A.in1.in1.in1.handled=af:=by simp[hh]
    obtain⟨oI,St,hit,W,st⟩:=K.iter {s with heap:=s.heap.push (eC w)} hok1;refine hit _ _ _ ?_;refine Ad (wpAny_runValue ?_);have hxS:x < s.heap.objs.size:=K.there _ hok;have hSf:s.heap.objs.size∉[(s.heap.push (eC w)).objs.size,x]:=by
     rw[Cs];simp only[Aq,Au,Av,or_false,not_or];exact⟨Bq (Gt _),Ef hxS⟩
    refine US (W _ hh3).toS s.heap.objs.size hSf rfl h64 (ks.length-0) 0 _ ⋯ (Bf _) st (Sb (Ai _ hS)) ?_;intro s' hm hS';obtain⟨h',g',d',tk',os'⟩:=s';have eg:g'=s.gens:=hm.gens;have ed:d'=s.drawn:=hm.drawn;have eo:os'=s.os:=hm.os;subst eg;subst ed;subst eo;show Bd _ _ _ _ _ _;refine Ap ?_;show Bd _ _ (ret B1) _ _ _;refine Ap ⟨rfl,h',tk',rfl,hS',λb o hb e=>?_⟩;have hb1:b≠s.heap.objs.size:=Bq hb;have hb2:b≠(s.heap.push (eC w)).objs.size:=by
     rw[Cs];exact Bq (Dq hb)
    exact hm.heap b o (by simp only[Aq,Au,Av,or_false,not_or];exact⟨hb1,hb2⟩) (Ai _ (Ai _ e))
   ·cases r₂ with
    |error e=>exact hr₂
    |ok fl₂=>
     cases fl₂ with
     |ret r=>
      obtain⟨rfl,h',tk,rfl,hS',hk'⟩:=hr₂
      repeat (any_goals (first|assumption|wp_step))
      exact h _ _ hS' hk'
     |_=>exact hr₂.elim
  |_=>exact hr.elim
theorem Tt(hk:∀i v,items[i]?=ae v->jn ks i v)(hl:items.size=ks.length):TxSrc prog w "list" x ks (λh=>h.IsList x items) where
 type:=λs h=>h.typeIs
 there:=λh hl=>let⟨_,e,_⟩:=hl;A0 e
 keep:=λh h' hl k=>let⟨o,e,r⟩:=hl;⟨o,k o e,r⟩
 notSet:=by rw[F8];kernel_rfl
 notFrozen:=by rw[F8];kernel_rfl
 notDict:=by decide
 iter:=λs hok=>⟨_,(λi h=>h.IsListIter s.heap.objs.size x i/\h.IsList x items),(λA E Q hq=>wpAny_pyIter_list hok hq),(λA hh=>by
  have W:=Walks.list (prog:=prog) (w:=w) hh s.heap.objs.size x (Bq (let⟨_,e,_⟩:=hok;A0 e)) items;refine⟨W.sub,W.frame,λi s Q E hi st hQ=>W.item i s Q E (by rw[hl];exact hi) st λv h' tk hv a b=>hQ v h' tk (hk i v hv) a b,?_,W.self⟩;rw[<-hl];exact W.done),⟨⟨_,Ba _ rfl,rfl,rfl⟩,hok.push _⟩⟩
theorem Rg(hk:∀i v,items[i]?=ae v->jn ks i v)(hl:items.size=ks.length):TxSrc prog w "tuple" x ks (λh=>h.IsTuple x items) where
 type:=λs h=>h.typeIs
 there:=λh hl=>let⟨_,e,_⟩:=hl;A0 e
 keep:=λh h' hl k=>let⟨o,e,r⟩:=hl;⟨o,k o e,r⟩
 notSet:=by rw[F8];kernel_rfl
 notFrozen:=by rw[F8];kernel_rfl
 notDict:=by decide
 iter:=λs hok=>⟨_,(λi h=>h.IsTupleIter s.heap.objs.size x i/\h.IsTuple x items),(λA E Q hq=>Em hok hq),(λA hh=>by
  have W:=Walks.tuple (prog:=prog) (w:=w) hh s.heap.objs.size x (Bq (let⟨_,e,_⟩:=hok;A0 e)) items;refine⟨W.sub,W.frame,λi s Q E hi st hQ=>W.item i s Q E (by rw[hl];exact hi) st λv h' tk hv a b=>hQ v h' tk (hk i v hv) a b,?_,W.self⟩;rw[<-hl];exact W.done),⟨⟨_,Ba _ rfl,rfl,rfl⟩,hok.push _⟩⟩
end
def jl(w:B5)(v:Addr)(ks:List Str):HO:=.ext λh=>jr w h v ks
def vH(w:B5):List V->Hp->VK->Prop:=λxs H Q=>∃(a:Addr)(ks:List Str),xs=[.ref a]/\(H a=ae (.lst (ks.map V.str))\/H a=ae (.tup (ks.map V.str)))/\ks.length < 64/\∀v,H v=af->Q (.ref v) (upd H v (jl w v ks))
theorem J1(h:Vals (ks.map V.str) vs)(i)(v)(e:vs.toArray[i]?=ae v):jn ks i v:=by
 have e':vs[i]?=ae v:=by simpa using e
 have hl:=h.length;rw[Ab]at hl;have hi:i < ks.length:=by rw[hl];exact(Bu.mp e').1
 obtain⟨u,hu,ru⟩:=h.get (show(ks.map V.str)[i]?=ae (V.str ks[i]) by rw[Bh,Ar hi];rfl);rw[e']at hu;cases hu;obtain⟨t,ht⟩:=ru;exact⟨ks[i],t,Ar hi,ht⟩
theorem CS{ks:List Str}(h:Vals (ks.map V.str) vs):vs.toArray.size=ks.length:=by
 have hl:=h.length;rw[Ab]at hl;rw[Bb,<-hl]
theorem ZD(hh:X.A.handled=af):CallR X (.type "set") (vH X.w):=by
 intro pins s σ H xs us Q I r h;obtain⟨a,ks,rfl,ha,h64,q⟩:=h;obtain⟨u,rfl,ru⟩:=i5 r;cases(show u=B8 a from ru);have fin:∀(h':Heap)(tk:Nat),jr X.w h' s.heap.objs.size ks->(∀b o,b < s.heap.objs.size->s.heap.get? b=ae o->h'.get? b=ae o)->EP X pins σ Q (.ref s.heap.objs.size) {s with heap:=h',toks:=tk}:=λh' tk hS hk=>by
  have hob:∃o,h'.get? s.heap.objs.size=ae o:=by
   obtain⟨es,ep,t,T,_⟩:=hS;obtain⟨o,e,_⟩:=T.obj;exact⟨o,e⟩
  refine⟨.ref s.heap.objs.size,_,I.laid (t':=tk) (o:=jl X.w s.heap.objs.size ks) (λb o e=>hk b o (A0 e) e) (Ay _) ⟨hS,hob,λh1 h2 q k=>?_⟩,rfl,q _ (I.hok.fresh (Ay _))⟩;obtain⟨es,ep,t,T,r⟩:=q;exact⟨es,ep,t,T.move λo e=>k _ e,r⟩
 rcases ha with ha|ha
 ·obtain⟨hl,vs,c,hv,hL⟩:=I.hok a _ ha;exact Kw (Tt (J1 hv) (CS hv)) hh ⟨_,hL,rfl,_,rfl⟩ h64 fin
 ·obtain⟨hl,vs,hv,o,ho,hc,⟨n,hd⟩,_⟩:=I.hok a _ ha;exact Kw (Rg (J1 hv) (CS hv)) hh ⟨o,ho,hc,n,hd⟩ h64 fin
theorem Inv.drew{σ:St}(I:Inv X pins σ H s)(dr):Inv X pins σ H {s with drawn:=dr}:=⟨I.ok,I.os,I.bare,I.base,I.loc,I.cell,I.free,I.freeC,I.pin,I.hok,I.len⟩
theorem Q7{σ:St}{h':Heap}(I:Inv X pins σ H s)(hkp:∀b o,s.heap.get? b=ae o->h'.get? b=ae o)(hT:j0 vs ks)(h64:ks.length < 64)
  (q:∀(D:Addr)(ys:List Str),ys.Perm ks->ys.Pairwise (λa b=>¬b.cps.toList < a.cps.toList)->H D=af->Q (.ref D) (upd H D (.lst (ys.map V.str)))):
  vs.length<=A6/\Bd (Bn X.prog X.w) X.A.in1.in1 (Ez.«list.sort» ⟨[.ref h'.objs.size],[]⟩) (λf s2=>f=.done (.ret .none)/\EP X pins σ Q (.ref h'.objs.size) s2) X.xe {s with heap:=h'.push (Dl "list" vs.toArray 0),toks:=tk}:=by
 have hl:=hT.1;refine⟨by rw[hl];exact ur ⋯,?_⟩;have hoL:(h'.push (Dl "list" vs.toArray 0)).get? h'.objs.size=ae (Dl "list" vs.toArray 0):=Ba _ rfl;have hs':∀b o,s.heap.get? b=ae o->b≠h'.objs.size:=λb o e=>Bq (A0 (hkp b o e));have fin:∀(idx:List Nat)(h3:Heap)(c:Nat),idx.Perm (Ce ks.length)->(idx.map λi=>ks.getD i ⟨#[]⟩).Pairwise (λa b=>¬b.cps.toList < a.cps.toList)->
   (∀b o,b≠h'.objs.size->(h'.push (Dl "list" vs.toArray 0)).get? b=ae o->h3.get? b=ae o)->h3.get? h'.objs.size=ae (Dl "list" (Dp (idx.map λi=>vs.getD i B1)) c)->EP X pins σ Q (.ref h'.objs.size) {s with heap:=h3,toks:=tk}:=λidx h3 c hp hw k3 hL=>by
  have I1:Inv X pins σ H {s with heap:=h',toks:=tk}:=I.kept hkp;have hn:H h'.objs.size=af:=I1.hok.fresh (Ay _);refine⟨.ref h'.objs.size,_,I1.laid (t':=tk) (h':=h3) (o:=.lst ((idx.map λi=>ks.getD i ⟨#[]⟩).map V.str)) (λb o e=>k3 b o (Bq (A0 e)) (Ai _ e)) (Ay _) ⟨?_,_,c,JA hT idx (λi hi=>Dh.mp (hp.mem_iff.mp hi)),hL⟩,rfl,q _ _ (Mf hp) hw hn⟩;rw[Ab,Ab,hp.length_eq,List.length_range];exact ur ⋯
 by_cases h2:2<=vs.length
 ·refine KS.ls_sort (s:={ s with heap:=h'.push (Dl "list" vs.toArray 0),toks:=tk}) hoL h2 ⋯ λe1 h4 ha4 k4=>?_;refine kas_kind (s:={ s with heap:=h4,toks:=tk}) (T:=D8 "str") h2 (λf hf=>?_) rfl rfl ?_
  ·obtain⟨j,hj⟩:=List.mem_iff_getElem?.mp hf;obtain⟨k,t,_,rfl⟩:=hT.2 j f hj;exact .now
  ·have hn:0 < vs.length:=by omega
   have hwi:=KS.wi_sort hn;refine KS.wp_run (n:=vs.length) (P:=KS.Pm vs.length) (c:=KS.ltK ks) (St:=λs'=>s'={ s with heap:=h4,toks:=tk}) (λi j C s' hi hj hs hC=>?_) _ _ hwi rfl λs' hs'=>?_
   ·subst hs;obtain⟨k1,t1,a1,a2⟩:=hT.2 i vs[i] (Ar hi);obtain⟨k2,t2,b1,b2⟩:=hT.2 j vs[j] (Ar hj);unfold kas_ask;have g1:vs.getD i B1=.str k1 t1:=by simp[hi,a2]
    have g2:vs.getD j B1=.str k2 t2:=by simp[hj,b2]
    rw[g1,g2];have c1:ks.getD i ⟨#[]⟩=k1:=by simp[a1]
    have c2:ks.getD j ⟨#[]⟩=k2:=by simp[b1]
    have:=hC _ rfl;unfold KS.ltK at this;rw[c1,c2]at this;exact kas_lt_str this
   ·subst hs';refine⟨ha4,λh3 c sb hL3=>⟨rfl,?_⟩⟩;have hpm:KS.Pm vs.length (KS.run (KS.ltK ks) (kas_sort vs.length)):=KS.Wi.out _ hwi;have hsp:=KS.sort_ok (KS.ordK ks) (n:=vs.length) hn;have hsz:=hpm.size;have hidx:(KS.run (KS.ltK ks) (kas_sort vs.length)).toList.Perm (Ce vs.length):=by
     have:=Array.perm_iff_toList_perm.mp hpm;simpa using this
    refine fin _ h3 c (by rw[<-hl];exact hidx) (Qo hsz hsp) (λb o hb e=>(sb.2 b hb).trans (k4 b o hb e)) hL3
 ·refine KS.ls_short (s:={ s with heap:=h'.push (Dl "list" vs.toArray 0),toks:=tk}) hoL ⋯ λh4 c ha4 k4=>⟨rfl,?_⟩;have el:vs=(Ce ks.length).map λi=>vs.getD i B1:=by
   apply List.ext_getElem (by simp[hl]);intro i h1 h2;simp[h1]
  have ha5:h4.get? h'.objs.size=ae (Dl "list" (Dp ((Ce ks.length).map λi=>vs.getD i B1)) c):=by rw[<-el];exact ha4
  refine fin (Ce ks.length) h4 c (List.Perm.refl _) ?_ k4 ha5;have:(Ce ks.length).length<=1:=by simp;omega
  match hr:Ce ks.length,this with
  |[],_=>exact .nil
  |[i],_=>exact G9 _ _
def xS(w:B5):List V->Hp->VK->Prop:=λxs H Q=>∃(v:Addr)(ks:List Str),xs=[.ref v]/\H v=ae (jl w v ks)/\ks.length < 64 /\
 ∀(D:Addr)(ys:List Str),ys.Nodup->(∀k,k∈ys↔k∈ks)->ys.Pairwise (λa b=>¬b.cps.toList < a.cps.toList)->H D=af->Q (.ref D) (upd H D (.lst (ys.map V.str)))
theorem UH{es vs:List (Int×Aj)}(h:∀e∈es,∃k t,e.2=.str k t/\e.1=hashStr w k)(p:vs.Perm es):j0 (vs.map (·.2)) (vs.map λe=>gv e.2):=by
 refine⟨by rw[Ab,Ab],λj v hj=>?_⟩;rw[Bh]at hj;cases e:vs[j]? with
 |none=>rw[e]at hj;cases hj
 |some x=>
  rw[e]at hj;obtain⟨k,t,e1,_⟩:=h x (p.mem_iff.mp (D4 e));have hv:x.2=v:=B3 hj;refine⟨k,t,?_,hv▸e1⟩;rw[Bh,e];show ae (gv x.2)=ae k;rw[e1];rfl
theorem Q9(hh:X.A.handled=af):CallR X (.builtin "sorted") (xS X.w):=by
 intro pins s σ H xs us Q I r h;obtain⟨v,ks,rfl,hv,h64,q⟩:=h;obtain⟨u,rfl,ru⟩:=i5 r;cases(show u=B8 v from ru);obtain⟨es,ep,t,T,hx,nd,hm,hl⟩:=(I.hok v _ hv).1;have h64':es.size < 64:=Fg hl h64;refine KS.sorted_of (R:=λvs s1=>∃(h':Heap)(tk:Nat)(dr:Drawn)(ys:List Str),s1={ s with heap:=h',toks:=tk,drawn:=dr}/\(∀b o,s.heap.get? b=ae o->h'.get? b=ae o)/\j0 vs ys/\ys.Nodup/\(∀k,k∈ys↔k∈ks)/\ys.length < 64)
  (WQ hh T h64' λh' tk dr vs hp hk=>?_) ?_
 ·have pk:(vs.map λe=>gv e.2).Perm (cG es):=List.Perm.map (λe:Int×Aj=>gv e.2) hp;exact⟨h',tk,dr,vs.map λe=>gv e.2,rfl,hk,UH hx hp,pk.nodup_iff.mpr nd,λk=>pk.mem_iff.trans (hm k),by rw[Ab,hp.length_eq,C5];exact h64'⟩
 rintro vs s1 ⟨h',tk,dr,ys,rfl,hkp,hT,nd',hm',h64'⟩
 exact Q7 (s:={ s with drawn:=dr}) (I.drew dr) hkp hT h64' λD zs hp hw hD=>q D zs (hp.nodup_iff.mpr nd') (λk=>hp.mem_iff.trans (hm' k)) hw hD
end L2
namespace DL
open PySem L2 Nb
section
variable{X:Cx}{o:Expr}{td:TE}{wd':DT}{pos p p2 ip:Pos}{W:B5}
def vA(ys:List Str):Prop:=ys.Pairwise λa b=>¬b.cps.toList < a.cps.toList
def qg(w:DT):fK:=λδ n Q=>w δ n λx n1=>∃ks:List Str,(x=.d (.list (ks.map .str))\/x=.d (.tuple (ks.map .str)))/\ks.length < 64/\(∀k∈ks,k.length<=1000) /\
 ∀ys:List Str,ys.Nodup->(∀k,k∈ys↔k∈ks)->vA ys->Q (ys.map .str) n1
theorem GH{α:Type}:∀{xs ys:List α},xs.Nodup->(∀x∈xs,x∈ys)->xs.length<=ys.length
 |[],_,_,_=>Bf _
 |x::xs,ys,nd,h=>by
  obtain⟨h1,h2⟩:=Fh.mp nd;obtain⟨l,r,e⟩:=List.append_of_mem (h x Ae);have:=GH (ys:=l++r) h2 λz hz=>by
   have hm:=h z (Af _ hz);rw[e]at hm;rcases Ax.mp hm with q|q
   ·exact Bx _ q
   ·rcases Aq.mp q with q|q
    ·exact absurd (q▸hz) h1
    ·exact Az _ q
  rw[e];simp only[Am,Ah]at this ⊢;omega
theorem xa:∀{xs:List V}{ks:List Str},RdXs H B xs (ks.map .str)->xs=ks.map V.str
 |[],[],_=>rfl
 |_::_,[],h=>nomatch h
 |[],_::_,h=>nomatch h
 |x::xs,k::ks,.cons h t=>by
  cases h;rw[xa t];rfl
theorem VD(hh:X.A.handled=af)(hg:Gl X "sorted")(hm:X.mg "sorted"=af)(hg2:Gl X "set")(hm2:X.mg "set"=af)(ho:DE X o td wd')(hW:X.w=W:=by rfl)(hv:Cf "sorted"=ae (.builtin "sorted"):=by decide +kernel)(hv2:Cf "set"=ae (.type "set"):=by decide +kernel)
  (he2:A8 [o] X.env=(ai,eval o X.env)::A8 [] X.env:=by rfl) (hpl2:(Df ip (A8 [] X.env)).any (·.1)=ai:=by rfl)
  (he':A8 [Expr.Call (.Name "set" p2) [o] [] ip] X.env=(ai,eval (Expr.Call (.Name "set" p2) [o] [] ip) X.env)::A8 [] X.env:=by rfl) (hpl:(Df pos (A8 [] X.env)).any (·.1)=ai:=by rfl):
  DF X (.Call (.Name "sorted" p) [.Call (.Name "set" p2) [o] [] ip] [] pos) (i6 (xS W) (cK (i6 (vH W) (cK td bF)) bF)) (qg wd'):=by
 subst hW;refine⟨nc (Q9 hh) hg hm hv (cH (AJ (ZD hh) hg2 hm2 hv2 (cH ho.pe dS he2) ∎ ∎ he2 hpl2) dS he') ∎ ∎ he' hpl,λC H B σ δ n Q Q' R q k=>
  ho.sd C H B σ δ n _ _ R q λv x H1 n1 R1 k1 r1 q1=>?_⟩
 obtain⟨ks,hx,h64,hk,kq⟩:=q1;have key:∀a:Addr,v=.ref a->(H1 a=ae (.lst (ks.map V.str))\/H1 a=ae (.tup (ks.map V.str)))->i6 (xS X.w) (cK (λσ H Q=>vH X.w [v] H Q) bF) σ H1 Q':=λa ea ha=>by
  subst ea;refine⟨a,ks,rfl,ha,h64,λu hu=>⟨u,ks,rfl,bL,h64,λD ys nd hm hw hD=>?_⟩⟩;have R2:=R1.new (o:=jl X.w u ks) hu;have hD1:H1 D=af:=by
   cases e:H1 D with
   |none=>rfl
   |some ob=>
    have:upd H1 u (jl X.w u ks) D=ae ob:=by rw[bc (b5 e hu)];exact e
    rw[hD]at this;cases this
  have hy:∀y∈ys,y.length<=1000:=λy hy=>hk y ((hm y).mp hy);refine k D _ _ _ n1 (R2.new hD) ((k1.trans (Kp.new hu)).trans (Kp.new hD)) (R1.was k1 hD1) bL ?_ (wg hy) (kq ys nd hm hw);rw[Ab];have:ys.length<=ks.length:=GH nd λy hy=>(hm y).mp hy;exact ur ⋯
 rcases hx with rfl|rfl
 ·cases(show RdX H1 B v (.list (ks.map .str))from r1)with
  |@lst a xs _ e1 e2 e3 e4=>exact key a rfl (.inl (by rw[e1,xa e4]))
 ·cases(show RdX H1 B v (.tuple (ks.map .str))from r1)with
  |@tup a xs _ e1 e2 e3 e4=>exact key a rfl (.inr (by rw[e1,xa e4]))
variable{a:Expr}{ta:TE}{wa:DT}{K:Ag}
end
section
variable{X:Cx}{a b c e o i f:Expr}{ta tb te td ty tx:TE}{wa wb we wd' wy wx:DT}{pos p:Pos}{K:Ag}
def fL(i:Nat):DT:=λδ n Q=>match δ[i]? with
 |some (ae (.own ds))=>Q (.ln ds) n
 |some (ae (.w x))=>Q x n
 |_=>False
theorem Td(i)(hN:X.N[i]?=ae x:=by rfl)(hv:gT X.env.scope x:=by first|exact Dr rfl|exact Cw (Dr rfl)|exact Cw (Cw rfl))(hd:(x==("__debug__":Str))=ai:=by decide)
  (hcd:(x==("__classdict__":Str))=ai:=by decide):DE X (.Name x p) (b9 i) (fL i):=⟨jw hN hv hd hcd,λC H B σ δ n Q Q' R h k=>by
 unfold fL at h
 split at h
 ·rename_i ds e;obtain⟨v,h1,a,xs,rfl,g2,g3,g4,g5,g6⟩:=R.sl i _ e;exact⟨_,h1,k _ (.ln ds) H n R (Kp.refl _ _) ⟨a,xs,rfl,g2,λz=>R.t0 (z▸g4),g5,g6⟩ h⟩
 ·rename_i x e;obtain⟨v,h1,h2⟩:=R.sl i _ e;exact⟨v,h1,k v x H n R (Kp.refl _ _) h2.1 h⟩
 ·exact h.elim⟩
def a8:Wv->Wv->Int->DQ->Prop:=λx y n Q=>match x with
 |.ln ds=>match y with
  |.d (.int i)=>match cF ds i with
   |some d=>Q (.d d) n
   |none=>False
  |_=>False
 |x=>aD x y n Q
theorem VM:bC (jD K) a8:=λC H B σ δ n x y p q Q Q' R rx ry h1 k=>by
 cases p with
 |ln ds=>
  unfold a8 at h1;dsimp only at h1
  split at h1
  ·rename_i i
   split at h1
   ·rename_i d e;cases(show RdX H B y (.int i)from ry);obtain⟨ay,ys,rfl,e1,e2,e3,e4⟩:=rx;obtain⟨v,f1,f2⟩:=yW e4 e;exact .inl ⟨ay,ys,i,v,rfl,rfl,SqL.of e1,f1,k _ _ H n R (Kp.refl _ _) (wd f2) h1⟩
   ·exact h1.elim
  ·exact h1.elim
 |d _=>exact oS C H B σ δ n x y _ q Q Q' R rx ry h1 k
 |tp=>exact oS C H B σ δ n x y _ q Q Q' R rx ry h1 k
 |dk _=>exact oS C H B σ δ n x y _ q Q Q' R rx ry h1 k
 |ob _=>exact oS C H B σ δ n x y _ q Q Q' R rx ry h1 k
theorem YU(ha:DE X a ta wa)(hb:DE X b tb wb)(hK:X.K=K:=by rfl)(hs:nz b:=by exact λ_ _=>rfl):DE X (.Subscript a b pos) (d3 (jD K) ta tb) (w2 wa wb a8):=by
 subst hK;exact⟨fR md ha.pe hb.pe hs,pW VM ha.sd hb.sd⟩
def d6(neg:Bool):Wv->Wv->Int->DQ->Prop:=λx y n Q=>match y with
 |.ln ds=>match x with
  |.d a=>jq a=ah/\ds.all jq=ah/\Q (.d (.bool (if neg then !bG a ds else bG a ds))) n
  |_=>False
 |y=>gn neg x y n Q
theorem Jn:bC (kj K neg) (d6 neg):=λC H B σ δ n x y p q Q Q' R rx ry h1 k=>by
 cases q with
 |ln ds=>
  unfold d6 at h1;dsimp only at h1
  split at h1
  ·rename_i da;obtain⟨f1,f2,q⟩:=h1;have rx:RdX H B x da:=rx;obtain⟨ay,ys,rfl,e1,e2,e3,e4⟩:=ry;refine⟨ay,ys,rfl,.inl (SqL.of e1),oY rx f1,pM e4 f2,?_⟩;rw[qx rx e4];exact k _ _ H n R (Kp.refl _ _) (wd (.bl _)) q
  ·exact h1.elim
 |d _=>exact lQ C H B σ δ n x y p _ Q Q' R rx ry h1 k
 |tp=>exact lQ C H B σ δ n x y p _ Q Q' R rx ry h1 k
 |dk _=>exact lQ C H B σ δ n x y p _ Q Q' R rx ry h1 k
 |ob _=>exact lQ C H B σ δ n x y p _ Q Q' R rx ry h1 k
def iF:List Wv->Int->DQ->Prop:=λxs n Q=>match xs with
 |[.ln ds]=>Q (~~~ds.length) n
 |xs=>aP xs n Q
theorem TJ:dw (w4 K) iF:=λC H B σ δ n vs xs Q Q' R r h k=>by
 unfold iF at h
 split at h
 ·rename_i ds;cases r with
  |cons r1 r2=>
   cases r2;obtain⟨ay,ys,rfl,e1,e2,e3,e4⟩:=r1;refine .inr ⟨ay,ys,rfl,.inl (SqL.of e1),?_⟩;rw[e4.len];exact k _ _ H n R (Kp.refl _ _) (wd (.int _)) h
 ·exact KI C H B σ δ n vs xs Q Q' R r h k
def pS:List Wv->Int->DQ->Prop:=λxs n Q=>match xs with
 |[.ln ds]=>Q (.d (.list ds)) n
 |xs=>mf xs n Q
theorem Zr:dw (rG K) pS:=λC H B σ δ n vs xs Q Q' R r h k=>by
 unfold pS at h
 split at h
 ·rename_i ds;cases r with
  |cons r1 r2=>
   cases r2;obtain⟨ay,ys,rfl,e1,e2,e3,e4⟩:=r1;refine⟨ay,ys,rfl,.inl (SqL.of e1),λl hl=>?_⟩;refine k _ _ _ n (R.new hl) (Kp.new hl) (wd (show RdX _ B _ (.list ds)from .lst bL (R.nb hl) e3 ?_)) h;exact(e4.fresh hl).less λb z=>.inl z
 ·exact GR C H B σ δ n vs xs Q Q' R r h k
def cf:Wv->Wv->Int->DQ->Prop:=λx y n Q=>match x,y with
 |.ln ds,.d (.list [])=>Q (.d (.bool ds.isEmpty)) n
 |x,y=>bA x y n Q
theorem RV:bC (lF K) cf:=λC H B σ δ n x y p q Q Q' R rx ry h1 k=>by
 unfold cf at h1
 split at h1
 ·rename_i ds;obtain⟨ax,xs,rfl,e1,e2,e3,e4⟩:=rx;cases(show RdX H B y (.list [])from ry)with
  |@lst ay ys _ f1 f2 f3 f4=>
   cases f4;refine .inr (.inr ⟨ax,ay,xs,rfl,rfl,SqL.of e1,SqL.of f1,?_⟩);have:xs.isEmpty=ds.isEmpty:=by cases e4<;>rfl
   rw[this];exact k _ _ H n R (Kp.refl _ _) (wd (.bl _)) h1
 ·exact xc C H B σ δ n x y p q Q Q' R rx ry h1 k
def fm:Wv->Option (List Aa)
 |.ln ds=>ae ds
 |.d (.list ds)=>ae ds
 |_=>af
def eA:Wv->Wv->Int->DQ->Prop:=λx y n Q=>match fm x,fm y with
 |some i,ae j=>i.length+j.length<=A6/\Q (.d (.list (i++j))) n
 |_,_=>False
theorem rT(h:WRel H B t v x)(e:fm x=ae ds):∃a xs,v=.ref a/\H a=ae (.lst xs)/\xs.length<=A6/\RdXs H B xs ds:=by
 cases x with
 |ln es=>
  cases e;obtain⟨a,xs,h1,h2,h3,h4,h5⟩:=h;exact⟨a,xs,h1,h2,h4,h5⟩
 |d y=>
  cases y with
  |list es=>
   cases e;cases(show RdX H B v (.list ds)from h)with
   |@lst a xs _ e1 e2 e3 e4=>exact⟨a,xs,rfl,e1,e3,e4⟩
  |_=>cases e
 |tp=>cases e
 |dk _=>cases e
 |ob _=>cases e
theorem XS:bC iY eA:=λC H B σ δ n x y p q Q Q' R rx ry h1 k=>by
 unfold eA at h1
 split at h1
 ·rename_i i j ei ej;obtain⟨ax,xs,rfl,e1,e3,e4⟩:=rT rx ei;obtain⟨ay,ys,rfl,f1,f3,f4⟩:=rT ry ej;obtain⟨hl,q⟩:=h1;have hl':xs.length+ys.length<=A6:=by rw[e4.len,f4.len];exact hl
  refine⟨ax,ay,xs,ys,rfl,rfl,e1,f1,hl',λpn hp=>?_⟩;refine k _ _ _ n (R.new hp) (Kp.new hp) (wd (show RdX _ B _ (.list (i++j))from .lst bL (R.nb hp) (by rw[Ah];exact hl') ?_)) q;exact((e4.append f4).fresh hp).less λb z=>.inl z
 ·exact h1.elim
theorem RD(ha:DE X a ta wa)(hb:DE X b tb wb):DE X (.BinOp a .Add b pos) (d3 iY ta tb) (w2 wa wb eA):=i8 zW XS ha hb
end
section
variable{X:Cx}{a b c e o i f:Expr}{ta tb te td ty tx:TE}{wa wb we wd' wy wx:DT}{pos p:Pos}{K:Ag}
def g9(w:DT)(g:eD):aL:=λδ n K=>w δ n λx n1=>match x with
 |.d d=>g d δ λδ'=>K.nx δ' n1
 |_=>False
theorem Od(he:DE X e te we)(hg:DG X tg g gd)(hs:swapsWithSole [tg] e pos.line X.env=pure ai:=by rfl)(hw:swappedStores [tg] e X.env=pure af:=by rfl)
  (h1:(Ee [tg] X.env).map (·.2)=[assign tg X.env]:=by rfl):DS X (.Assign [tg] e pos) (c9 te g) (g9 we gd):=⟨ou he.pe hg.pg hs hw h1,λC H B σ δ n K D R q E=>
 he.sd C H B σ δ n _ _ R q λv x H1 n1 R1 k1 r1 q1=>by
  cases x with
  |d d=>exact hg.sd C H1 B σ δ n1 v d _ _ R1 r1 q1 λσ' δ' R' q'=>E.nx _ _ _ _ _ R' q'
  |tp=>exact q1.elim
  |dk _=>exact q1.elim
  |ln _=>exact q1.elim
  |ob _=>exact q1.elim⟩
def me:Wv->Option (List Aa)
 |.ln ds=>ae ds
 |.d (.list ds)=>ae ds
 |.d (.tuple ds)=>ae ds
 |_=>af
theorem Ub(h:WRel H B t v x)(e:me x=ae ds):∃a xs,v=.ref a/\(SqL K H a xs\/SqT K H a xs)/\xs.length<=A6/\RdXs H B xs ds:=by
 cases x with
 |ln es=>
  cases e;obtain⟨a,xs,h1,h2,h3,h4,h5⟩:=h;exact⟨a,xs,h1,.inl (SqL.of h2),h4,h5⟩
 |d y=>
  cases y with
  |list es=>
   cases e;cases(show RdX H B v (.list ds)from h)with
   |@lst a xs _ e1 e2 e3 e4=>exact⟨a,xs,rfl,.inl (SqL.of e1),e3,e4⟩
  |tuple es=>
   cases e;cases(show RdX H B v (.tuple ds)from h)with
   |@tup a xs _ e1 e2 e3 e4=>exact⟨a,xs,rfl,.inr (SqT.of e1),e3,e4⟩
  |_=>cases e
 |tp=>cases e
 |dk _=>cases e
 |ob _=>cases e
def ky(w:DT):fK:=λδ n Q=>w δ n λx n1=>match me x with
 |some ds=>Q ds n1
 |none=>False
theorem XT(hg:Gl X "list")(hm:X.mg "list"=af)(ho:DE X o td wd')(hK:X.K=K:=by rfl)(he:A8 [o] X.env=(ai,eval o X.env)::A8 [] X.env:=by rfl)(hpl:(Df pos (A8 [] X.env)).any (·.1)=ai:=by rfl):
  DF X (.Call (.Name "list" p) [o] [] pos) (i6 (rG K) (cK td bF)) (ky wd'):=
 ⟨AJ (uS hK) hg hm AO (cH ho.pe dS he) ∎ ∎ he hpl,λC H B σ δ n Q Q' R q k=>ho.sd C H B σ δ n _ _ R q λv x H1 n1 R1 k1 r1 q1=>by
  split at q1
  ·rename_i ds ex;obtain⟨a,xs,rfl,h1,h2,h3⟩:=Ub (K:=K) r1 ex;refine⟨a,xs,rfl,h1,λl hl=>?_⟩;exact k l xs ds _ n1 (R1.new hl) (k1.trans (Kp.new hl)) (R1.was k1 hl) bL h2 (h3.fresh hl) q1
  ·exact q1.elim⟩
def iT:List Wv->Int->DQ->Prop:=λxs n Q=>match xs with
 |[.ln ds]=>Q ‹ds› n
 |xs=>gD xs n Q
theorem Q6:dw (uA K) iT:=λC H B σ δ n vs xs Q Q' R r h k=>by
 unfold iT at h
 split at h
 ·rename_i ds;cases r with
  |cons r1 r2=>
   cases r2;obtain⟨ay,ys,rfl,e1,e2,e3,e4⟩:=r1;refine⟨ay,ys,rfl,.inl ⟨SqL.of e1,λl hl=>?_⟩⟩;refine k _ _ _ n (R.new hl) (Kp.new hl) (wd (show RdX _ B _ (.tuple ds)from .tup bL (R.nb hl) e3 ?_)) h;exact(e4.fresh hl).less λb z=>.inl z
 ·exact HR C H B σ δ n vs xs Q Q' R r h k
def fQ(i:Nat)(w:DT):aL:=λδ n K=>match δ[i]? with
 |some (ae (.own ds))=>w δ n λx n1=>match x with
  |.d (.list es)=>(ds.length < 1000000/\es.length < 1000000)/\K.nx (δ.set i (ae (.own (ds++es)))) n1
  |_=>False
 |_=>False
theorem wq(h:n < 1000000)(h':m < 1000000):n+m<=A6:=by
 have:2000000<=A6:=by decide
 omega
theorem Yn{i:Nat}{xp ap cp:Pos}(hN:X.N[i]?=ae x)(he:DE X e te we)(hv:gT X.env.scope x:=by first|exact Dr rfl|exact Cw (Dr rfl)|exact Cw (Cw rfl))(hd:(x==("__debug__":Str))=ai:=by decide)
  (hcd:(x==("__classdict__":Str))=ai:=by decide)
  (hbase:E6 (.Name x xp) "extend" X.env (eval (.Name x xp) X.env)=eval (.Name x xp) X.env:=by rfl)
  (hfew:((Df cp (A8 [e] X.env)).all (λx=>!x.1)&&(backToKw cp (F7 [] X.env)).all (λx=>x.1.isSome)
   && decide ([e].length+([]:List Fb).length+(if ([]:List Fb).isEmpty then 0 else 1) < 30))=ah:=by rfl)
  (hline:(ap.endLine==cp.line)=ah:=by rfl) (hs:A8 [e] X.env=[(ai,eval e X.env)]:=by rfl) (hplain:(Df cp (A8 [] X.env)).any (·.1)=ai:=by rfl)
  (hsw:Fw (.Call (.Attribute (.Name x xp) "extend" ap) [e] [] cp) af pos.line X.env=pure ai:=by rfl):
  DS X (.Expr (.Call (.Attribute (.Name x xp) "extend" ap) [e] [] cp) pos) (ng (jB X.K "list" CZ (b9 i) (cK te bF))) (fQ i we):=
 ⟨ka (ml F9 PySem.F.slot_list_extend PySem.F.type_list_extend LQ (jw hN hv hd hcd) (cH he.pe dS hs) hbase hfew hline hs hplain) hsw,λC H B σ δ n K D R q E=>by
  unfold fQ at q
  split at q
  ·rename_i ds ei;obtain⟨v,hv,a,xs,rfl,e2,e3,e4,e5,e6⟩:=R.sl i _ ei;refine⟨_,hv,.inl ⟨rfl,_,SqL.of e2⟩,he.sd C H B σ δ n _ _ R q λu y H1 n1 R1 k1 r1 q1=>?_⟩
   split at q1
   ·rename_i es;have hat:a≠C.t:=λz=>R.t0 (z▸e4);have e2':=k1 _ _ e2 hat;cases(show RdX H1 B u (.list es)from r1)with
    |@lst b zs _ f1 f2 f3 f4=>
     have hl:xs.length+zs.length<=A6:=by rw[e6.len,f4.len];exact wq q1.1.1 q1.1.2
     refine⟨a,b,xs,zs,rfl,rfl,e2',f1,hl,?_⟩;refine E.nx _ _ _ _ _ (R1.mutOwn ei rfl hv e3 e4 ?_ rfl) q1.2;refine⟨a,xs++zs,rfl,bL,e3,e4,by rw[Ah];exact hl,?_⟩;refine RdXs.keep (λb o e n=>?_) ((e6.kp k1 R.bt).append f4);rw[bc λ(z:b=a)=>n (z▸e3)];exact e
   ·exact q1.elim
  ·exact q.elim⟩
theorem S7(H)(B):RdXs H B sR jV:=.cons .non (.cons .non (.cons .non (.cons (.int _) (.cons (.int _) (.cons (.int _) (.cons (.int _) .nil))))))
def gp(i:Nat):DT:=λδ n Q=>match δ[i]? with
 |some (ae (.w .tp))=>Q (.ln jV) n
 |_=>False
theorem LG(i){x:Str}{ix:Int}{p p2:Pos}{jj}(hK:X.K=K:=by rfl)(hN:X.N[i]?=ae x:=by rfl)(hv:gT X.env.scope x:=by first|exact Dr rfl|exact Cw (Dr rfl)|exact Cw (Cw rfl))(hd:(x==("__debug__":Str))=ai:=by decide)
  (hcd:(x==("__classdict__":Str))=ai:=by decide):DE X (.Subscript (.Name x p) (.Constant (.int 3) jj p2) pos) (d3 (jD K) (b9 i) (tC (.int 3))) (gp i):=by
 subst hK;refine⟨fR md (jw hN hv hd hcd) cC (λ_ _=>rfl),λC H B σ δ n Q Q' R h k=>?_⟩;unfold gp at h
 split at h
 ·rename_i e;obtain⟨v,h1,h2⟩:=R.sl i _ e;cases(show v=.ref C.t from h2.1);obtain⟨a,b,ho,_⟩:=R.tp.ob;refine⟨_,h1,.inl ⟨C.t,_,3,.ref C.l.g,rfl,rfl,SqL.of ho,fX (j:=3) rfl,k _ (.ln jV) H n R (Kp.refl _ _) ⟨C.l.g,sR,rfl,R.tp.ag rfl,R.tp.gne,by decide,S7 _ _⟩ h⟩⟩
 ·exact h.elim
end
section
variable{X:Cx}{e:Expr}{st:Stmt}{sts:List Stmt}
def m6:aL:=λ_ _ _=>False
theorem ss_no:DSs X sts (λ_ _ _=>False) m6:=⟨λ_ _ _ _ _ _ h=>h.elim,λ_ _ _ _ _ _ _ _ _ h _=>h.elim⟩
end
end DL
namespace L2
open PySem PySem.Spec PyProof.Rows
end L2
namespace DL
open PySem L2 Nb
end DL
namespace HT
open PySem PyProof.Rows
open PySem.SeqAt
open PySem.AutoSeq1 (wpAny_loadPart')
open PySem.MeetsSeq PySem.MeetsSeq2 PySem.MeetsSeq3
section
variable{prog:Bs}{w:B5}{A:Cj}{E:Aj->Ao->Prop}{s:Ao}
theorem getItem_tuple_whole{lo hi:Option Int}(ht:IsTup s.heap t items)(hs:s.heap.IsSliceOf sl vl vu .none)(pl:IsPart vl lo)(pu:IsPart vu hi)
  (h0:sIx items.size 0 lo=0) (h1:sIx items.size items.size hi=items.size) (h:Q (.ref t) s):Bd (Bn prog w) A (getItem (.ref t) (.ref sl)) Q E s:=by
 obtain⟨os,hos,hcs,hds⟩:=id hs;have hTs:s.TypeIs (.ref sl) "slice":=⟨os,hos,hcs⟩;unfold getItem
 try with_reducible refine Dv ?_
 first|refine Ad (Ap ?_)|skip
 refine Ad (wpAny_sequenceKey ht.typeIs ∎ ?_);refine Ad (B9 (name:=Bt "__getitem__") ht.typeIs Ej
  (Cp Ej ht.typeIs entry_tuple_getitem ?_ (args_tuple_getitem _ _)))
 show Bd _ _ (Builtin.Tuple.tupleItemsOf (.ref t)>>=_) _ _ s;refine Ad (tupleItemsOf_ ht ?_);refine Ad (wpAny_typeOf hTs ?_);rw[if_pos ∎];refine Ad (GF hs pl pu ?_);have hyes:(((sIx items.size 0 lo:Nat):Int)==0&&(1:Int)==1&&(sIx items.size items.size hi-sIx items.size 0 lo)==items.size)=ah:=by
  rw[h0,h1];simp
 show Bd _ _ (if (((sIx items.size 0 lo:Nat):Int)==0&&(1:Int)==1&&(sIx items.size items.size hi-sIx items.size 0 lo)==items.size)=ah then _ else _) _ _ s;rw[if_pos hyes];unfold Builtin.Tuple.tupleIsExact;refine Ad (Ad (wpAny_typeOf ht.typeIs (Ap ?_)));rw[if_pos ∎];exact Ad (Gz (Ap ⟨_,rfl,Ap h⟩))
end
end HT
namespace L2
open PySem PySem.Spec PyProof.Rows
def qw(K:Ag):V->Option Int->Option Int->Hp->VK->Prop:=λx lo hi H Q=>∃a xs,x=.ref a/\SqT K H a xs/\HT.sIx xs.length 0 lo=0/\HT.sIx xs.length xs.length hi=xs.length/\Q (.ref a) H
theorem W8:SlR X (qw X.K):=by
 intro pins s σ H x v vl vu lo hi sl Q I rx hs pl pu h;obtain⟨a,xs,rfl,hx,h0,h1,q⟩:=h;cases rx;obtain⟨its,r,ht,hz⟩:=I.tuple hx;have hlen:its.toArray.size=xs.length:=by rw[Bb];exact r.length.symm
 refine⟨"tuple",_,PyProof.Rows.slot_tuple_getitem.lookup,ht.typeIs,?_⟩;exact HT.getItem_tuple_whole ht hs pl pu (by rw[hlen];exact h0) (by rw[hlen];exact h1) ⟨.ref a,H,I,rfl,q⟩
end L2
namespace DL
open PySem L2 Nb
section
variable{X:Cx}{e:Expr}{te:TE}{we:DT}{pos p2:Pos}{K:Ag}{lo hi:Option Expr}
abbrev kS:=Sl->Int->(Option Int->Int->Prop)->Prop
def cJ:kS:=λ_ n Q=>Q af n
def cg(w:DT):kS:=λδ n Q=>w δ n λx n1=>match x with
 |.d (.int i)=>Q (ae i) n1
 |_=>False
def Om(t:TO)(w:kS):Prop:=∀(C:Ctx)(H:Hp)(B:Addr->Prop)(σ:St)(δ:Sl)(n:Int)(Q:Option Int->Int->Prop)(Q':Option Int->Hp->Prop),Rel C H B σ δ n->w δ n Q->
 (∀o H' n',Rel C H' B σ δ n'->Kp C.t H H'->Q o n'->Q' o H')->t σ H Q'
structure DOp(X:Cx)(o:Option Expr)(t:TO)(w:kS):Prop where
 po:PO X o t
 sd:Om t w
theorem Te:DOp X af yH cJ:=⟨yY,λC H B σ δ n Q Q' R q k=>k af H n R (Kp.refl _ _) q⟩
theorem Ig(h:DE X e te we):DOp X (ae e) (yf te) (cg we):=⟨uO h.pe,λC H B σ δ n Q Q' R q k=>h.sd C H B σ δ n _ _ R q λv x H1 n1 R1 k1 r1 q1=>by
 split at q1
 ·rename_i i;cases(show RdX H1 B v (.int i)from r1);exact⟨i,rfl,k (ae i) H1 n1 R1 k1 q1⟩
 ·exact q1.elim⟩
def bI(xs:List Aa)(lo hi:Option Int):List Aa:=(xs.drop (HT.sIx xs.length 0 lo)).take (HT.sIx xs.length xs.length hi-HT.sIx xs.length 0 lo)
def cu(w:DT)(l u:kS):DT:=λδ n Q=>w δ n λx n1=>l δ n1 λa n2=>u δ n2 λb n3=>match x with
 |.d (.tuple ds)=>Q ‹(bI ds a b)› n3
 |_=>False
def xU(K:Ag):V->Option Int->Option Int->Hp->VK->Prop:=λx lo hi H Q=>om K x lo hi H Q\/qw K x lo hi H Q
theorem OH(he:DE X e te we)(hl:DOp X lo tl wl)(hh:DOp X hi th wh)(hK:X.K=K:=by rfl):DE X (.Subscript e (.Slice lo hi af p2) pos) (sF (xU K) te tl th) (cu we wl wh):=by
 subst hK;refine⟨t8 (sl_tup.or W8) he.pe hl.po hh.po,λC H B σ δ n Q Q' R q k=>he.sd C H B σ δ n _ _ R q λv x H1 n1 R1 k1 r1 q1=>
  hl.sd C H1 B σ δ n1 _ _ R1 q1 λa H2 n2 R2 k2 q2=>hh.sd C H2 B σ δ n2 _ _ R2 q2 λb H3 n3 R3 k3 q3=>?_⟩
 split at q3
 ·rename_i ds;have r3:RdX H3 B v (.tuple ds):=(r1.kp k2 R1.bt).kp k3 R2.bt;cases r3 with
  |@tup aa xs _ e1 e2 e3 e4=>
   have kk:=(k1.trans k2).trans k3;by_cases hw:HT.sIx xs.length 0 a=0/\HT.sIx xs.length xs.length b=xs.length
   ·refine .inr ⟨aa,xs,rfl,SqT.of e1,hw.1,hw.2,k _ _ H3 n3 R3 kk (wd (show RdX H3 B _ (.tuple ds)from .tup e1 e2 e3 e4)) ?_⟩;have:bI ds a b=ds:=by
     unfold bI;rw[<-e4.len,hw.1,hw.2,List.drop_zero,Nat.sub_zero,e4.len,F0]
    rw[this]at q3;exact q3
   ·refine .inl ⟨aa,xs,rfl,SqT.of e1,hw,λp hp=>?_⟩;refine k _ _ _ n3 (R3.new hp) (kk.trans (Kp.new hp)) (wd (show RdX _ B _ (.tuple (bI ds a b))from .tup bL (R3.nb hp) (A4 (sW xs a b) e3) ?_)) q3;unfold bI fi;rw[<-e4.len];exact(((e4.drop _).take _).fresh hp).less λb z=>.inl z
 ·exact q3.elim
end
end DL
namespace Nb
open PySem L2
section
variable{X:Cx}
theorem NT(S it)(mine:Array Aj)(n)(items:Array Aj)(n2)(hc:o.cls=.type "tuple")(hd:o.data=.seq items n2)
  (hlong:¬(!mine.isEmpty&&Ei (mine.size+items.size))=ah) (hz1:mine.size<=A6) (hz2:mine.size+items.size<=A6+1) (hz3:items.size<=A6):
  Meets (Ez.«list.extend» ⟨[.ref S,.ref it],[]⟩) (λ_ R s=>s.heap.get? S=ae {cls:=.type "list",data:=.seq mine n}/\s.heap.get? it=ae o/\R (.ok (.ret B1)) {s with heap:=s.heap.update S (C7 λx=>x++items),toks:=s.toks}):=λprog w A R s h=>by
 obtain⟨hS,ho,hR⟩:=h;show Bd _ A.in1 (D5 (.ref S) (.ref it) .none) _ _ s;unfold D5;refine Ad (wpAny_typeOf ⟨o,ho,hc⟩ ?_);have h1:(Gx (.ref S) (.ref it) || D8 "tuple"==D8 "list" || D8 "tuple"==D8 "tuple")=ah:=by simp
 simp only[h1,if_true];refine Ad ?_;unfold Builtin.List.listItems;refine Ad (Dd ho hd (Ap ?_));refine Ad ?_;refine Ad (Dd hS rfl (Ap ?_));simp only[hlong];show Bd _ A.in1 (updateSeq S (·++items)>>=λ_=>ret B1) _ _ s;refine Ad (wpAny_updateSeq hS rfl ?_ hz1 (by rw[Array.size_append];exact hz2));exact Ap hR
def J8:V->List V->Hp->VK->Prop:=λx vs H Q=>∃l b xs zs,x=.ref l/\vs=[.ref b]/\H l=ae (.lst xs)/\H b=ae (.tup zs)/\xs.length+zs.length<=A6/\Q .non (upd H l (.lst (xs++zs)))
theorem QW:yB X "list.extend" J8:=by
 intro pins s σ H x vs v us Q I rx rv h;obtain⟨l,b,xs,zs,rfl,rfl,hH,hB,hz,q⟩:=h;cases rx;obtain⟨u,rfl,ru⟩:=rv.one;cases ru;obtain⟨z,its,n,r,hl,e⟩:=I.lstM hH;obtain⟨its2,r2,⟨o2,e2,c2,n2,d2⟩,z2⟩:=I.tuple (SqT.of hB);have hl2:=r2.length;have hsz:its.toArray.size+its2.toArray.size<=A6:=by rw[Bb,Bb];omega
 have hlong:¬(!its.toArray.isEmpty&&Ei (its.toArray.size+its2.toArray.size))=ah:=by
  rw[HE hsz,Gm];exact Al
 refine call_meets F.slot_list_extend ⟨_,e,rfl⟩ F.entry_list_extend (F.args_list_extend_2 _ _)
  (NT l b its.toArray n its2.toArray n2 c2 d2 hlong (by rw[Bb];omega) ⋯ (by rw[Bb];omega)) ⟨e,e2,?_⟩
 refine⟨.non,_,I.lset (its':=its++its2) hH e (by simp) (r.append r2) ?_,rfl,q⟩;rw[Ah];omega
end
end Nb
namespace DL
open PySem L2 Nb
section
variable{X:Cx}{tg a b c e o i f:Expr}{ta tb te td ty tx:TE}{wa wb we wd' wy wx:DT}{pos p:Pos}{K:Ag}
def ni(i:Nat)(w:DT):aL:=λδ n K=>match δ[i]? with
 |some (ae (.own ds))=>w δ n λx n1=>match x with
  |.d (.tuple es)=>(ds.length < 1000000/\es.length < 1000000)/\K.nx (δ.set i (ae (.own (ds++es)))) n1
  |_=>False
 |_=>False
theorem Yw{i:Nat}{xp ap cp:Pos}(hN:X.N[i]?=ae x)(he:DE X e te we)(hv:gT X.env.scope x:=by first|exact Dr rfl|exact Cw (Dr rfl)|exact Cw (Cw rfl))(hd:(x==("__debug__":Str))=ai:=by decide)
  (hcd:(x==("__classdict__":Str))=ai:=by decide)
  (hbase:E6 (.Name x xp) "extend" X.env (eval (.Name x xp) X.env)=eval (.Name x xp) X.env:=by rfl)
  (hfew:((Df cp (A8 [e] X.env)).all (λx=>!x.1)&&(backToKw cp (F7 [] X.env)).all (λx=>x.1.isSome)
   && decide ([e].length+([]:List Fb).length+(if ([]:List Fb).isEmpty then 0 else 1) < 30))=ah:=by rfl)
  (hline:(ap.endLine==cp.line)=ah:=by rfl) (hs:A8 [e] X.env=[(ai,eval e X.env)]:=by rfl) (hplain:(Df cp (A8 [] X.env)).any (·.1)=ai:=by rfl)
  (hsw:Fw (.Call (.Attribute (.Name x xp) "extend" ap) [e] [] cp) af pos.line X.env=pure ai:=by rfl):
  DS X (.Expr (.Call (.Attribute (.Name x xp) "extend" ap) [e] [] cp) pos) (ng (jB X.K "list" J8 (b9 i) (cK te bF))) (ni i we):=
 ⟨ka (ml F9 PySem.F.slot_list_extend PySem.F.type_list_extend QW (jw hN hv hd hcd) (cH he.pe dS hs) hbase hfew hline hs hplain) hsw,λC H B σ δ n K D R q E=>by
  unfold ni at q
  split at q
  ·rename_i ds ei;obtain⟨v,hv,a,xs,rfl,e2,e3,e4,e5,e6⟩:=R.sl i _ ei;refine⟨_,hv,.inl ⟨rfl,_,SqL.of e2⟩,he.sd C H B σ δ n _ _ R q λu y H1 n1 R1 k1 r1 q1=>?_⟩
   split at q1
   ·rename_i es;have hat:a≠C.t:=λz=>R.t0 (z▸e4);have e2':=k1 _ _ e2 hat;cases(show RdX H1 B u (.tuple es)from r1)with
    |@tup b zs _ f1 f2 f3 f4=>
     have hl:xs.length+zs.length<=A6:=by rw[e6.len,f4.len];exact wq q1.1.1 q1.1.2
     refine⟨a,b,xs,zs,rfl,rfl,e2',f1,hl,?_⟩;refine E.nx _ _ _ _ _ (R1.mutOwn ei rfl hv e3 e4 ?_ rfl) q1.2;refine⟨a,xs++zs,rfl,bL,e3,e4,by rw[Ah];exact hl,?_⟩;refine RdXs.keep (λb o e n=>?_) ((e6.kp k1 R.bt).append f4);rw[bc λ(z:b=a)=>n (z▸e3)];exact e
   ·exact q1.elim
  ·exact q.elim⟩
def dH(hs:List Str)(w:DT):DT:=λδ n Q=>w δ n λx n1=>match x with
 |.d a=>jq a=ah/\Q (.d (.bool (bG a (hs.map .str)))) n1
 |_=>False
theorem IZ(hl:∀h∈hs,h.length<=1000)(hq:∀H,SqT K H q (hs.map V.str))(h:fZ ta wa):fZ (d3 (kj K ai) ta (tC (.ref q))) (dH hs wa):=λC H B σ δ n Q Q' R z k=>
 h C H B σ δ n _ _ R z λv x H1 n1 R1 k1 r1 q1=>by
  split at q1
  ·rename_i da;have r1:RdX H1 B v da:=r1;have rs:RdXs H1 B (hs.map V.str) (hs.map .str):=wg hl;refine⟨q,_,rfl,.inr (hq H1),oY r1 q1.1,pM rs ?_,k _ _ H1 n1 R1 k1 (wd (.bl _)) ?_⟩
   ·rw[Ep];exact Be.mpr λ_ _=>rfl
   ·rw[qx r1 rs];exact q1.2
  ·exact q1.elim
theorem UA{xp:Pos}(ha:DE X a ta wa)(hg:Gl X x)(hm:X.mg x=ae (.ref q))(hq:∀H,SqT K H q (hs.map V.str))(hl:∀h∈hs,h.length<=1000:=by decide +kernel)(hK:X.K=K:=by rfl)(hd:(x==("__debug__":Str))=ai:=by decide)
  (hmk:Dw .In (Expr.Name x xp)=ai:=by with_unfolding_all rfl):DC X (.Compare a [.In] [.Name x xp] pos) (kM (d3 (kj K ai) ta (tC (.ref q)))) (cT (dH hs wa)):=
 ⟨jx (oP hK) ha.pe (kO hg hm rfl hd) hmk,qz (IZ hl hq ha.sd)⟩
end
abbrev eJ:=List Wv->Int->(List Aa->Int->Prop)->Prop
def nH(S:eJ):Sp:=λvs H Q _=>∃(t:Addr)(l:TL)(ns:List Int)(B:Addr->Prop)(ws:List Wv)(n:Int)(Q0:List Aa->Int->Prop),Tp H t l ns n/\B t/\(∀b,B b->H b≠af)/\ARel H B t vs ws/\S ws n Q0 /\
 ∀ds n',Q0 ds n'->∀a xs H',Tp H' t l ns n'->Kp t H H'->H a=af->H' a=ae (.lst xs)->xs.length<=A6->RdXs H' (λb=>B b\/b=a) xs ds->Q (.ref a) H'
section
variable{X:Cx}{e:Expr}{es:List Expr}{pos p:Pos}{tR:TA}{wR:fC}{te:TE}{we:DT}
def iy(S:eJ)(w:fC):fK:=λδ n Q=>w δ n λxs n1=>S xs n1 Q
theorem RK(h:j8 t w):jO (iC (nH S) [] E0 t) (iy S w):=λC H B σ δ n Q Q' R q k=>
 h C H B σ δ n _ _ R q λvs xs H1 n1 R1 k1 r1 q1=>by
  refine⟨C.t,C.l,C.ns,B,xs,n1,Q,R1.tp,R1.bt,R1.ba,by rw[A5];exact r1,q1,λds n' q2 a ys H' T' k' h0 h1 h2 h3=>?_⟩;exact k a ys ds H' n' (R1.step T' k') (k1.trans k') (R1.was k1 h0) h1 h2 h3 q2
structure HasN(P:Bs)(w:B5)(K:Ag)(mg:Str->Option Aj)(base:Heap)(k:Nat)(x:Str)(ps:List Str)(S:eJ):Prop where
 ex:∃(f:Addr)(fd:C1),FnOk P w K mg base dy k f fd ps (nH S)/\Binds K fd ps []/\mg x=ae (.ref f)/\C2 K (.ref f)=ah
theorem HasN.mk'(F:Fun K x qual st f fd)(m:mg x=ae (.ref f))(b:Binds K fd ps [])(h:FnOk P w K mg base dy k f fd ps (nH S)):HasN P w K mg base k x ps S:=⟨f,fd,h,b,m,F.kp⟩
theorem Xk(h:HasN X.prog X.w X.K X.mg X.base k x ps S)(hr:Room k X.A)(hg:Gl X x)
  (ha:DA X (e::es) tR wR) (hdb:(x==("__debug__":Str))=ai:=by decide) (he:A8 (e::es) X.env=(ai,eval e X.env)::A8 es X.env:=by rfl) (hpl:(Df pos (A8 es X.env)).any (·.1)=ai:=by rfl):
  DF X (.Call (.Name x p) (e::es) [] pos) (iC (nH S) [] E0 tR) (iy S wR):=by
 obtain⟨f,fd,h1,h2,h3,h4⟩:=h.ex;exact⟨rE h1 hr hg h3 h4 h2 .nil sC ha.pa hdb he hpl,RK ha.sd⟩
def AQ(i:Nat):aL:=λδ n K=>match δ[i]? with
 |some (ae (.own ds))=>K.rn ds n
 |_=>False
theorem RX(i){xp:Pos}(hN:X.N[i]?=ae x:=by rfl)(hv:gT X.env.scope x:=by first|exact Dr rfl|exact Cw (Dr rfl)|exact Cw (Cw rfl))(hd:(x==("__debug__":Str))=ai:=by decide)
  (hcd:(x==("__classdict__":Str))=ai:=by decide):DS X (.Return (ae (.Name x xp)) pos) (mF (b9 i)) (AQ i):=⟨nL (jw hN hv hd hcd),λC H B σ δ n K D R q E=>by
 unfold AQ at q
 split at q
 ·rename_i ds ei;obtain⟨v,hv,a,xs,rfl,e2,e3,e4,e5,e6⟩:=R.sl i _ ei;exact⟨_,hv,E.rn H B σ δ n a xs ds R e4 e2 e5 (e6.less λb z=>z.elim id λe=>e▸e3) q⟩
 ·exact q.elim⟩
end
section
variable{P:Bs}{w:B5}{K:Ag}{mg:Str->Option Aj}{base:Heap}
theorem Fun.okN(F:Fun K x qual st f fd)(Sc:FnScope N ps (dh st))(len:∀ws n Q,S ws n Q->ws.length=ps.length)
  (hbody:∀(cdv:Aj)(A:Cj)(outer:List Env)(s:Ao)(H:Hp)(E:XK),Room k (A.deeper (D2 qual (dh st) s.heap.objs.size f cdv))->
   ∃T W,DSs (dM dy P w K mg base N qual (dh st) f cdv A outer s H E).nox (gB st) T W/\∀ws n Q,S ws n Q->W (cz N ws) n {nx:=λ_ _=>False,rt:=λ_ _=>False,rn:=Q}):FnOk P w K mg base dy (k+1) f fd ps (nH S):=by
 refine F.ok Sc (λvs H Q E h=>?_) (λcdv A outer s H vs Q E hr h=>?_)
 ·obtain⟨t,l,ns,B,ws,n,Q0,_,_,_,r,q,_⟩:=h;rw[r.len];exact len ws n Q0 q
 ·obtain⟨t,l,ns,B,ws,n,Q0,T,bt,ba,r,q,kk⟩:=h;obtain⟨T',W,d,hw⟩:=hbody cdv A outer s H E hr;refine⟨T',d.ps,d.sd ⟨t,l,ns,H,B,λ_=>af⟩ H B _ _ n _ _ (JU T bt ba r) (hw ws n Q0 q) ⟨?_,?_,?_,?_,?_⟩⟩
  ·exact λ_ _ _ _ _ _ z=>z.elim
  ·exact λ_ _ _ _ _ _ _ _ _ z=>z.elim
  ·exact λ_ _ _ _ _ _ z=>z.elim
  ·exact λ_ _ _ _ _ _ z=>z.elim
  ·exact λH' B' σ δ n' a xs ds R' h0 h1 h2 h3 q'=>kk _ _ q' a xs H' R'.tp R'.kp h0 h1 h2 (h3.less λb z=>z.elim (λz=>.inl (R'.b0 b z)) .inr)
end
end DL
namespace Nb
open PySem L2
def e9(K:Ag)(q:Addr)(D:List (Str×Str)):Prop:=(q==E4)=ai/\∃(o:Obj)(es:Array DictEntry)(ep:Nat),K.lookup q=ae o/\o.ExactDict/\o.data=.dict es ep/\PyProof.Rows.KTD.Rows (λ(d:Str) v=>∃t,v=.str d t) es.toList D
def gP(D:List (Str×Str)):List (Str×PyProof.Rows.KTD.Dat):=D.map λp=>(p.1,.flat (.str p.2))
theorem EW(k):∀D:List (Str×Str),Bj k (gP D)=(Bj k D).map λs=>.flat (.str s)
 |[]=>rfl
 | (x,s)::D=>by
  show(if decide (k=x)=ah then ae _ else Bj k (gP D))=C9 _ (if decide (k=x)=ah then ae s else Bj k D);rw[EW k D]
  split<;>rfl
theorem Hi(k)(D):PyProof.Rows.KTD.inKeys k (gP D)=(Bj k D).isSome:=by
 rw[<-PyProof.Rows.KTD.isSome_datumAt,EW,Option.isSome_map]
theorem GI:∀D:List (Str×Str),(∀s,Bj k D=ae s->∀t,P (.str s t))->PyProof.Rows.KTD.EachL h k P (gP D)
 |[],_=>trivial
 | (x,s)::D,hp=>by
  by_cases hx:k=x
  ·refine PyProof.Rows.KTD.eachL_hit hx (PyProof.Rows.KTD.opened_str λt=>hp s ?_ t);show(if decide (k=x)=ah then ae s else Bj k D)=ae s;rw[if_pos (decide_eq_true hx)]
  ·refine PyProof.Rows.KTD.eachL_miss hx (GI D λs' hs' t=>hp s' ?_ t);show(if decide (k=x)=ah then ae s else Bj k D)=ae s';rw[if_neg (by simp[hx])];exact hs'
theorem KR:∀D:List (Str×Str),((gP D).all λp=>PyProof.Rows.KTD.plain p.2)=ah
 |[]=>rfl
 |_::D=>by
  show(ah&&(gP D).all λp=>PyProof.Rows.KTD.plain p.2)=ah;rw[KR D];rfl
section
variable{X:Cx}{pins:List (Addr×Obj)}{σ:St}{H:Hp}{s:Ao}{q:Addr}{D:List (Str×Str)}
theorem Lx(I:Inv X pins σ H s)(h:e9 X.K q D):PyProof.Rows.KTD.Here s.heap s.heap q (gP D):=by
 obtain⟨h1,o,es,ep,hk,h2,h3,h4⟩:=h;exact⟨⟨h1,o,es,ep,I.kIn q o hk,h2,h3,PyProof.Rows.KTD.Rows.mono (f:=λd:Str=>PyProof.Rows.KTD.Dat.flat (.str d)) (R':=PyProof.Rows.KTD.Dat.At s.heap) (λd v ⟨t,e⟩=>by subst e;exact PyProof.V.Flat.str _ _) h4⟩,λ_ _ e=>e⟩
def uo(K:Ag):R2:=λx y H Q=>∃k q D,x=.str k/\y=.ref q/\e9 K q D/\Q (.bl (Bj k D).isSome) H
theorem Np:OpR X (B4 .In) (uo X.K):=by
 intro pins s σ H x y v u Q I rx ry h;obtain⟨k,q,D,rfl,rfl,hT,hq⟩:=h;obtain⟨t,rfl⟩:=rx;cases ry;refine PyProof.Rows.KTD.in_text (Lx I hT) ?_;rw[Hi];exact⟨.bl _,H,I.kept (t':=s.toks+1) λ_ _ e=>e,rfl,hq⟩
def l7(K:Ag):R2:=λx y H Q=>∃k q D d,x=.ref q/\y=.str k/\e9 K q D/\Bj k D=ae d/\Q (.str d) H
theorem UC:IxR X (l7 X.K):=by
 intro value slice pins s σ H x y v u Q I rx ry h hs;obtain⟨k,q,D,d,rfl,rfl,hT,hd,hq⟩:=h;obtain⟨t,rfl⟩:=ry;cases rx;refine PyProof.Rows.KTD.item_textA (Lx I hT) (KR D) (by rw[Hi,hd];rfl) (GI D λd' hd' t'=>?_) hs;rw[hd]at hd';cases hd';exact⟨.str d,H,I.kept (t':=s.toks+1) λ_ _ e=>e,⟨t',rfl⟩,hq⟩
end
end Nb
namespace DL
open PySem L2 Nb
section
variable{X:Cx}{a b c e o i f:Expr}{ta tb te ty:TE}{wa wb we wy:DT}{pos p xp:Pos}{K:Ag}{D:List (Str×Str)}{q:Addr}{x:Str}
def je(D:List (Str×Str))(w:DT):DT:=λδ n Q=>w δ n λx n1=>match x with
 |.d (.str k)=>Q (.d (.bool (Bj k D).isSome)) n1
 |_=>False
theorem Vg(hK:X.K=K:=by rfl):OpR X (B4 .In) (uo K):=by subst hK;exact Np
theorem QV(hq:e9 K q D)(h:fZ ta wa):fZ (d3 (uo K) ta (tC (.ref q))) (je D wa):=λC H B σ δ n Q Q' R z k=>
 h C H B σ δ n _ _ R z λv x H1 n1 R1 k1 r1 q1=>by
  split at q1
  ·rename_i key;cases(show RdX H1 B v (.str key)from r1);exact⟨key,q,D,rfl,rfl,hq,k _ _ H1 n1 R1 k1 (wd (.bl _)) q1⟩
  ·exact q1.elim
theorem Ta(ha:DE X a ta wa)(hg:Gl X x)(hm:X.mg x=ae (.ref q))(hq:e9 K q D)(hK:X.K=K:=by rfl)(hd:(x==("__debug__":Str))=ai:=by decide)
  (hmk:Dw .In (Expr.Name x xp)=ai:=by with_unfolding_all rfl):DC X (.Compare a [.In] [.Name x xp] pos) (kM (d3 (uo K) ta (tC (.ref q)))) (cT (je D wa)):=
 ⟨jx (Vg hK) ha.pe (kO hg hm rfl hd) hmk,qz (QV hq ha.sd)⟩
def dE(D:List (Str×Str))(w:DT):DT:=λδ n Q=>w δ n λx n1=>match x with
 |.d (.str k)=>match Bj k D with
  |some s=>s.length<=1000/\Q (.d (.str s)) n1
  |none=>False
 |_=>False
theorem jg(h:n<=1000):n<=A6:=A4 h ∎
theorem Wh(hK:X.K=K:=by rfl):IxR X (l7 K):=by subst hK;exact UC
theorem Qx(hi:DE X i ty wy)(hg:Gl X x)(hm:X.mg x=ae (.ref q))(hq:e9 K q D)(hs:nz i:=by exact λ_ _=>rfl)(hK:X.K=K:=by rfl)(hd:(x==("__debug__":Str))=ai:=by decide):
  DE X (.Subscript (.Name x xp) i pos) (d3 (l7 K) (tC (.ref q)) ty) (dE D wy):=⟨fR (Wh hK) (kO hg hm rfl hd) hi.pe hs,λC H B σ δ n Q Q' R z k=>
 hi.sd C H B σ δ n _ _ R z λv x H1 n1 R1 k1 r1 q1=>by
  split at q1
  ·rename_i key
   split at q1
   ·rename_i s es;cases(show RdX H1 B v (.str key)from r1);exact⟨key,q,D,s,rfl,rfl,hq,es,k _ _ H1 n1 R1 k1 (wd (.str _ (jg q1.1))) q1.2⟩
   ·exact q1.elim
  ·exact q1.elim⟩
def qy:List V->Hp->VK->Prop:=λxs H Q=>(∃i,xs=[.int i]/\i.natAbs.log2 < 1920/\Q (.str (C4 i)) H)\/∃x,xs=[.str x]/\Q (.str x) H
theorem PL:CallR X (.type "str") qy:=by
 intro pins s σ H xs us Q I r h;rcases h with h|⟨x,rfl,q⟩
 ·exact QP pins s σ H xs us Q I r h
 ·obtain⟨u,rfl,t,rfl⟩:=i5 r;exact PySem.P.str_of_str ⟨.str _,H,I,⟨_,rfl⟩,q⟩
def cm:List Wv->Int->DQ->Prop:=λxs n Q=>match xs with
 |[.d (.int i)]=>(i.natAbs.log2 < 1920/\(Bt (C4 i)).length<=1000)/\Q (.d (.str (C4 i))) n
 |[.d (.str x)]=>Q (.d (.str x)) n
 |_=>False
theorem RZ:dw qy cm:=λC H B σ δ n vs xs Q Q' R r h k=>by
 unfold cm at h
 split at h
 ·rename_i i;cases r with
  |cons r1 r2=>
   cases r2;cases(show RdX H B _ (.int i)from r1);exact .inl ⟨i,rfl,h.1.1,k _ _ H n R (Kp.refl _ _) (wd (.str _ (jg h.1.2))) h.2⟩
 ·rename_i x;cases r with
  |cons r1 r2=>
   cases r2;have r1':RdX H B _ (.str x):=r1;cases r1' with
   |str _ hx=>exact .inr ⟨x,rfl,k _ _ H n R (Kp.refl _ _) (wd (.str _ hx)) h⟩
 ·exact h.elim
theorem XQ(hg:Gl X x)(hm:X.mg x=ae (.str v tk))(hl:v.length<=1000:=by decide +kernel)(hd:(x==("__debug__":Str))=ai:=by decide):DE X (.Name x p) (tC (.str v)) (wC (.str v)):=⟨kO hg hm ⟨tk,rfl⟩ hd,mV λ_ _=>.str v (jg hl)⟩
def gy(wa wb:DT):fK:=λδ n Q=>wa δ n λx n1=>wb δ n1 λy n2=>match fm x,fm y with
 |some i,ae j=>i.length+j.length<=A6/\Q (i++j) n2
 |_,_=>False
theorem Og(ha:DE X a ta wa)(hb:DE X b tb wb):DF X (.BinOp a .Add b pos) (d3 iY ta tb) (gy wa wb):=⟨eO zW ha.pe hb.pe,λC H B σ δ n Q Q' R z k=>
 ha.sd C H B σ δ n _ _ R z λv x H1 n1 R1 k1 r1 q1=>hb.sd C H1 B σ δ n1 _ _ R1 q1 λu y H2 n2 R2 k2 r2 q2=>by
  have r1':=r1.kp k2 R1.bt
  split at q2
  ·rename_i i j ei ej;obtain⟨ax,xs,rfl,e1,e3,e4⟩:=rT r1' ei;obtain⟨ay,ys,rfl,f1,f3,f4⟩:=rT r2 ej;obtain⟨hl,q⟩:=q2;have hl':xs.length+ys.length<=A6:=by rw[e4.len,f4.len];exact hl
   refine⟨ax,ay,xs,ys,rfl,rfl,e1,f1,hl',λpn hp=>?_⟩;refine k pn (xs++ys) (i++j) _ n2 (R2.new hp) ((k1.trans k2).trans (Kp.new hp)) (R2.was (k1.trans k2) hp) bL (by rw[Ah];exact hl') ((e4.append f4).fresh hp) q
  ·exact q2.elim⟩
theorem Ke:∀(D:List (Str×Str))(σ:St)(H:Hp)(Q:List (V×V)->Hp->Prop),Q (D.map λp=>(V.str p.1,V.str p.2)) H->tD (D.map λp=>(tC (.str p.1),tC (.str p.2))) σ H Q
 |[],_,_,_,q=>q
 |_::D,σ,H,_,q=>Ke D σ H _ q
theorem X2{p:Addr}{x y:HO}:upd (upd H p x) p y=upd H p y:=by
 funext b
 by_cases e:b=p
 ·subst e;rw[bL,bL]
 ·rw[bc e,bc e,bc e]
def ny(D:List (Str×Str)):List (bg×Aa):=D.map λp=>(.inr p.1,.str p.2)
def lA(D:List (Str×Str)):oK:=λ_ n Q=>Q (ll [] (ny D)) n
theorem HZ:∀{D:List (Str×Str)},(∀p∈D,p.2.length<=1000)->RdK H B (D.map λp=>(Fs p.1,V.str p.2)) (ny D)
 |[],_=>.nil
 |p::_,h=>.cons ⟨rfl,.str _ (jg (h p Ae))⟩ (HZ λx hx=>h x (Af _ hx))
theorem QG(h:kA X pos keys values (D.map λp=>(tC (.str p.1),tC (.str p.2))))(hall:keys.all (·.isSome)=ah:=by rfl)(hl:keys.length=values.length:=by rfl)(h0:keys≠[]:=by exact λz=>nomatch z)(h15:keys.length<=15:=by decide)(hD:D.length<=15:=by decide)
  (hv:∀p∈D,p.2.length<=1000:=by decide +kernel):DN X (.Dict keys values pos) (FD (D.map λp=>(tC (.str p.1),tC (.str p.2)))) (lA D):=⟨MR h hall hl h0 h15,λC H B σ δ n Q Q' R q k=>λa ha=>by
 refine Ke D σ _ _ ⟨bL,D.map λp=>(Fs p.1,V.str p.2),by rw[Ck];rfl,by rw[Ab];exact hD,?_⟩;rw[X2];refine k a _ (ll [] (ny D)) _ n (R.new ha) (Kp.new ha) ha bL ?_ (RdK.merge (HZ hv) .nil) q;have:=RN (D.map λp=>((Fs p.1:bg),V.str p.2)) [];rw[Ab]at this;have z:([]:List (bg×V)).length=0:=rfl;omega⟩
end
end DL
namespace L2
open PySem PySem.Spec PyProof.Rows PySem.SeqAt PySem.W
end L2
namespace L2
open PySem PySem.Spec PyProof.Rows
end L2
namespace L2
open PySem PySem.Spec PyProof.Rows PySem.SeqAt PySem.W
end L2
namespace L2
open PySem PySem.Spec PyProof.Rows PySem.W
end L2
namespace L2
open PySem PySem.Spec PyProof.Rows PySem.SeqAt PySem.W
end L2
namespace DL
open PySem L2 Nb
end DL
namespace L2
open PySem PySem.Spec PyProof.Rows PySem.SeqAt PySem.W
end L2
namespace DL
open PySem L2 Nb
section
variable{X:Cx}{a b c e o i f:Expr}{ta tb te td ty tx:TE}{wa wb we wd' wy wx:DT}{pos p:Pos}{K:Ag}
def um:Wv->Option Aa
 |.d x=>ae x
 |.ln ds=>ae (.list ds)
 |_=>af
theorem DJ(h:WRel H B t v x)(e:um x=ae d):RdD K H v d:=by
 cases x with
 |d y=>cases e;exact RdX.rd h
 |ln ds=>
  cases e;obtain⟨a,xs,rfl,h2,h3,h4,h5⟩:=h;exact .lst (SqL.of h2) h5.rd
 |tp=>cases e
 |dk _=>cases e
 |ob _=>cases e
def mM(f:Aa->Aa->Option Bool):Wv->Wv->Int->DQ->Prop:=λx y n Q=>match um x,um y with
 |some d,ae e=>d.canLay0=ah/\e.canLay0=ah/\d.depth<=20/\e.depth<=20/\∃b,f d e=ae b/\Q (.d (.bool b)) n
 |_,_=>False
theorem X8{f:Aa->Aa->Option Bool}:bC (tT K f) (mM f):=λC H B σ δ n x y p q Q Q' R rx ry h1 k=>by
 unfold mM at h1
 split at h1
 ·rename_i d e ed ee;obtain⟨a1,a2,a3,a4,b,a5,a6⟩:=h1;exact⟨d,e,b,DJ rx ed,DJ ry ee,a1,a2,a3,a4,a5,k _ _ H n R (Kp.refl _ _) (wd (.bl b)) a6⟩
 ·exact h1.elim
end
end DL
namespace HT
open PySem PyProof.Rows
end HT
namespace L2
open PySem PySem.Spec PyProof.Rows
end L2
namespace DL
open PySem L2 Nb
end DL
namespace L2
open PySem PySem.Spec PyProof.Rows PySem.SeqAt
section
variable{X:Cx}{K:Ag}
def BW(K:Ag)(neg:Bool):R2:=λx y H Q=>∃a b xs,x=.ref a/\y=.ref b/\SqT K H a xs/\SqT K H b []/\Q (.bl (if neg then !xs.isEmpty else xs.isEmpty)) H
theorem TZ(hu:X.A.units < cLine)(hK:X.K=K:=by rfl):OpR X (B4 .NotEq) (BW K ah):=by
 subst hK;intro pins s σ H x y v u Q I rx ry h;obtain⟨a,b,xs,rfl,rfl,ha,hb,q⟩:=h;cases(show v=B8 a from rx);cases(show u=B8 b from ry);obtain⟨its,r1,p1,_⟩:=I.tuple ha;obtain⟨its2,r2,p2,_⟩:=I.tuple hb;have e2:its2=[]:=Vals.zero r2;subst e2;refine RcNeAt.tuples (e:=λ_=>ah) p1 p2 hu (λj h1 h2=>absurd h2 (by simp)) X.prog X.w X.xe _ ⟨.bl (!xs.isEmpty),H,I,?_,q⟩;cases r1<;>simp[RelV]
end
end L2
namespace DL
open PySem L2 Nb
section
variable{X:Cx}{K:Ag}
def k0(neg:Bool):Wv->Wv->Int->DQ->Prop:=λx y n Q=>match x,y with
 |.d (.tuple ds),.d (.tuple [])=>Q (.d (.bool (if neg then !ds.isEmpty else ds.isEmpty))) n
 |_,_=>False
theorem Yp:bC (BW K neg) (k0 neg):=λC H B σ δ n x y p q Q Q' R rx ry h1 k=>by
 unfold k0 at h1
 split at h1
 ·rename_i ds;cases(show RdX H B x (.tuple ds)from rx)with
  |@tup ax xs _ e1 e2 e3 e4=>
   cases(show RdX H B y (.tuple [])from ry)with
   |@tup ay ys _ f1 f2 f3 f4=>
    cases f4;have:xs.isEmpty=ds.isEmpty:=by cases e4<;>rfl
    refine⟨ax,ay,xs,rfl,rfl,SqT.of e1,SqT.of f1,?_⟩;rw[this];exact k _ _ H n R (Kp.refl _ _) (wd (.bl _)) h1
 ·exact h1.elim
end
end DL
namespace L2
open PySem PySem.Spec PyProof.Rows
section
variable{prog:Bs}{w:B5}{A:Cj}{E:Aj->Ao->Prop}{s:Ao}
theorem YK{z TI TO i1 i2 l1 l2:Addr}(hh:A.handled=af)(D:ZipApart z TI TO i1 i2 l1 l2)
  (hz:IsZip s.heap z TI TO .none) (hTI:En s.heap TI (.ref i1) (.ref i2)) (hTO:En s.heap TO a b)
  (h1:s.heap.IsTupleIter i1 l1 k) (h2:s.heap.IsTupleIter i2 l2 k) (hl1:s.heap.IsTuple l1 xs) (hl2:s.heap.IsTuple l2 ys) (hx:xs[k]?=ae x) (hy:ys[k]?=af)
  (hE:∀h' e,(∀c o,c≠z->c≠TO->c≠i1->c≠i2->s.heap.get? c=ae o->h'.get? c=ae o)->(∃o,h'.get? e=ae o/\o.cls=.type "StopIteration")->E (.ref e) {s with heap:=h'}):
  Bd (Bn prog w) A (Ez.«zip.__next__» ⟨[.ref z],[]⟩) Q E s:=by
 show Bd _ _ (field (.ref z) 2>>=_) _ _ _;refine Ad (C3 hz rfl (x:=.bool ai) rfl ?_);show Bd _ _ (field (.ref z) 3>>=_) _ _ _;refine Ad (C3 hz rfl (x:=.ref TI) rfl ?_);refine Ad (Dd hTI rfl ?_);show Bd _ _ (Ct (.ref z)>>=_) _ _ _;refine Ad ?_;unfold Ct;refine Ad (C3 hz rfl (x:=.none) rfl (Ap ?_));simp only[if_true];refine Ad (Gz ?_);refine Ad (C3 hz rfl (x:=.ref TO) rfl ?_);refine Ad (El hz (by simp) λg1 hz1 s1=>?_)
 replace hz1:IsZip g1 z TI TO .ellipsis:=hz1
 refine Ad ?_;simp only[List.zipIdx_cons,List.zipIdx_nil,List.forIn_cons,List.forIn_nil];refine Ad (Ad (wpAny_onRaise ?_));show Bd _ _ (Cq (.ref i1)>>=_) _ _ _;refine Ad (tQ (h1.extBut s1.extBut D.i1z) (hl1.extBut s1.extBut D.l1z) hx λg2 t2 s2=>Ap ?_);have p2:En g2 TO a b:=s2.extBut _ _ D.TOi1 (s1.extBut _ _ D.TOz hTO);refine Ad (Dd p2 rfl ?_);refine Ad (wpAny_updateSeq_pair p2 λg3 p3 s3=>?_)
 replace p3:En g3 TO x b:=p3
 refine Ad (wpAny_letGo (Ap ?_));refine Ad (Ad (wpAny_onRaise ?_));show Bd _ _ (Cq (.ref i2)>>=_) _ _ _;refine Ad (zg hh (((h2.extBut s1.extBut D.i2z).extBut s2.extBut D.i12.symm).extBut s3.extBut D.TOi2.symm)
  (((hl2.extBut s1.extBut D.l2z).extBut s2.extBut D.l2i1).extBut s3.extBut D.l2TO) hy λg4 e s4 he=>?_)
 obtain⟨oe,hoe,hce⟩:=he;have z4:IsZip g4 z TI TO .ellipsis:=s4 _ _ D.i2z.symm (s3.extBut _ _ D.TOz.symm (s2.extBut _ _ D.i1z.symm hz1));have hez:e≠z:=λx=>by subst x;rw[z4]at hoe;cases hoe;simp at hce
 refine El z4 (by simp) λg5 _ s5=>hE g5 e (λc o c1 c2 c3 c4 x=>s5.extBut _ _ c1 (s4 _ _ c4 (s3.extBut _ _ c2 (s2.extBut _ _ c3 (s1.extBut _ _ c1 x))))) ⟨oe,s5.extBut _ _ hez hoe,hce⟩
theorem Xo{z TI TO i1 i2 l1 l2:Addr}(hh:A.handled=af)(D:ZipApart z TI TO i1 i2 l1 l2)
  (hz:IsZip s.heap z TI TO .none) (hTI:En s.heap TI (.ref i1) (.ref i2)) (hTO:En s.heap TO a b)
  (h1:s.heap.IsTupleIter i1 l1 k) (h2:s.heap.IsTupleIter i2 l2 k) (hl1:s.heap.IsTuple l1 xs) (hl2:s.heap.IsTuple l2 ys) (hx:xs[k]?=ae x) (hy:ys[k]?=af)
  (hQ:∀h',(∀c o,c≠z->c≠TO->c≠i1->c≠i2->s.heap.get? c=ae o->h'.get? c=ae o)->Q af {s with heap:=h'}):Bd (Bn prog w) A (E5 (.ref z)) Q E s:=by
 have hT:s.TypeIs (.ref z) "zip":=⟨_,hz,rfl⟩;unfold E5;refine Ad (E3 (B9 (name:=Bt "__next__") hT Gi
  (Cp Gi hT F.entry_zip_next (YK hh D hz hTI hTO h1 h2 hl1 hl2 hx hy λh' e hk he=>?_) (F.args_zip_next_1 _))))
 obtain⟨o,ho,hc⟩:=he;refine Ad (Gb (T:="StopIteration") (b:=ah) ⟨o,ho,hc⟩ isSubtype_stop ?_);exact Ap (hQ _ hk)
end
def qe(K:Ag)(a b:Addr):It:=
 ⟨λi H=>∃xs ys x y,SqT K H a xs/\SqT K H b ys/\xs[i]?=ae x/\ys[i]?=ae y,
  λi H v H'=>∃T x y,v=.ref T/\H T=af/\H'=upd H T (.tup [x,y])/\(∀xs,SqT K H a xs->xs[i]?=ae x)/\∀ys,SqT K H b ys->ys[i]?=ae y,
  λi H=>(∃xs,SqT K H a xs/\xs.length<=i)\/∃xs ys x,SqT K H a xs/\SqT K H b ys/\xs[i]?=ae x/\ys.length<=i⟩
theorem VF{K:Ag}{a b z TI TO i1 i2:Addr}(D:ZipApart z TI TO i1 i2 a b):Turn P w K (.Tuple elts kk pos) (qe K a b) [z,TI,TO,i1,i2] z
  (λi h=>IsZip h z TI TO .none/\En h TI (.ref i1) (.ref i2)/\(∃x y,En h TO x y)/\h.IsTupleIter i1 a i/\h.IsTupleIter i2 b i) where
 mem:=by simp
 obj:=λi h st c hc=>by
  obtain⟨hz,hI,⟨x,y,hO⟩,⟨o1,e1,c1,d1⟩,⟨o2,e2,c2,d2⟩⟩:=st;simp only[Aq,Av,or_false]at hc;rcases hc with rfl|rfl|rfl|rfl|rfl
  ·exact⟨_,hz,λv q=>by have q':Data.fields _=Data.cell v:=q;cases q'⟩
  ·exact⟨_,hI,λv q=>by have q':Data.seq _ _=Data.cell v:=q;cases q'⟩
  ·exact⟨_,hO,λv q=>by have q':Data.seq _ _=Data.cell v:=q;cases q'⟩
  ·exact⟨o1,e1,λv q=>by rw[d1]at q;cases q⟩
  ·exact⟨o2,e2,λv q=>by rw[d2]at q;cases q⟩
 keep:=λi h h' st k=>by
  obtain⟨hz,hI,⟨x,y,hO⟩,h1,h2⟩:=st;exact⟨k z (by simp) _ hz,k TI (by simp) _ hI,⟨x,y,k TO (by simp) _ hO⟩,h1.at λo e=>k i1 (by simp) o e,h2.at λo e=>k i2 (by simp) o e⟩
 item:=by
  intro X hP hw hK hc i pins s σ H E I hf st hg;subst hP hw hK;obtain⟨hz,hI,⟨x0,y0,hO⟩,h1,h2⟩:=st;obtain⟨xs,ys,x,y,qa,qb,ex,ey⟩:=hg;obtain⟨its,rv,p,_⟩:=I.tuple qa;obtain⟨jts,rw',p',_⟩:=I.tuple qb;obtain⟨u,hu,ru⟩:=rv.get ex;obtain⟨u',hu',ru'⟩:=rw'.get ey;refine Yv D hz hI hO h1 h2 (show s.heap.IsTuple a its.toArray from p) (show s.heap.IsTuple b jts.toArray from p') (x:=u) (y:=u') (by simpa using hu) (by simpa using hu') λh' a1 a2 a3 a4 a5 a6 a7=>⟨_,rfl,?_⟩;refine wpAny_letOwnedTupleGo_zip (s:={ s with heap:=h'}) a1 λh'' b1 b2=>?_;have T:h''.get? s.heap.objs.size=ae {cls:=.type "tuple",data:=.seq #[u,u']}:=b2.extBut _ _ (Ef (A0 hz)) a5;have Tn:H s.heap.objs.size=af:=I.hok.fresh (Ay _);have kp:∀c o,c∉[z,TI,TO,i1,i2]->s.heap.get? c=ae o->h''.get? c=ae o:=λc o hc e=>by
   simp only[Aq,Av,or_false,not_or]at hc;exact b2.extBut _ _ hc.1 (a7 c o hc.1 hc.2.2.1 hc.2.2.2.1 hc.2.2.2.2 e)
  refine⟨.ref s.heap.objs.size,upd H s.heap.objs.size (.tup [x,y]),I.many (t':=s.toks) hf kp (Ay _) ⟨by show 2<=A6;decide,[u,u'],.cons ru (.cons ru' .nil),_,T,rfl,⟨_,rfl⟩,rfl⟩,rfl,⟨_,x,y,rfl,Tn,rfl,λzs q=>by rw[I.tuple_inj q qa];exact ex,λzs q=>by rw[I.tuple_inj q qb];exact ey⟩,
   ⟨b1,b2.extBut _ _ D.TIz (a7 _ _ D.TIz D.TITO D.TIi1 D.TIi2 hI),⟨_,_,b2.extBut _ _ D.TOz a2⟩,a3.extBut b2.extBut D.i1z,a4.extBut b2.extBut D.i2z⟩,λc hc=>?_⟩
  have hlt:c < s.heap.objs.size:=by
   simp only[Aq,Av,or_false]at hc;rcases hc with rfl|rfl|rfl|rfl|rfl
   ·exact A0 hz
   ·exact A0 hI
   ·exact A0 hO
   ·obtain⟨_,e,_⟩:=h1;exact A0 e
   ·obtain⟨_,e,_⟩:=h2;exact A0 e
  rw[bc (Bq hlt)];exact(hf c hc).1
 done:=by
  intro X hP hw hK hc i pins s σ H E I hf st hg;subst hP hw hK;obtain⟨hz,hI,⟨x0,y0,hO⟩,h1,h2⟩:=st;rcases hg with⟨xs,hq,hx⟩|⟨xs,ys,x,qa,qb,ex,ey⟩
  ·obtain⟨its,rv,p,_⟩:=I.tuple hq;have hl:=rv.length;refine N7 (I.ok.hd hc) D hz hI h1 (show s.heap.IsTuple a its.toArray from p) (by simp;omega) λh' k=>⟨rfl,I.many0 (t':=s.toks) hf λc o hc e=>?_⟩;simp only[Aq,Av,or_false,not_or]at hc;exact k c o hc.1 hc.2.2.2.1 e
  ·obtain⟨its,rv,p,_⟩:=I.tuple qa;obtain⟨jts,rw',p',_⟩:=I.tuple qb;have hl:=rw'.length;obtain⟨u,hu,ru⟩:=rv.get ex;refine Xo (I.ok.hd hc) D hz hI hO h1 h2 (show s.heap.IsTuple a its.toArray from p) (show s.heap.IsTuple b jts.toArray from p') (x:=u) (by simpa using hu) (by simp;omega) λh' k=>⟨rfl,I.many0 (t':=s.toks) hf λc o hc e=>?_⟩;simp only[Aq,Av,or_false,not_or]at hc;exact k c o hc.1 hc.2.2.1 hc.2.2.2.1 hc.2.2.2.2 e
 self:=λ_ _ _ _ _ st h=>wpAny_pyIter_zip st.1 h
def HK(K:Ag)(ta:TA):TI:=λσ H R=>ta σ H λvs H1=>∃a b,vs=[.ref a,.ref b]/\(∃xs,SqT K H1 a xs)/\(∃ys,SqT K H1 b ys)/\R (qe K a b) H1
theorem QU{elts:List Expr}{kk:Nat}{tpos:Pos}{p pos:Pos}(hg:Gl X "zip")(hm:X.mg "zip"=af)(ha:PA X [e1,e2] ta)(hs:A8 [e1,e2] X.env=[(ai,eval e1 X.env),(ai,eval e2 X.env)]:=by rfl)(hs2:A8 [e2] X.env=[(ai,eval e2 X.env)]:=by rfl):
  PI X (.Tuple elts kk tpos) (.Call (.Name "zip" p) [e1,e2] [] pos) (HK X.K ta):=by
 intro pins s σ H R I h;refine Call_ (lR I hg hm X6 (D3 (bh (ha pos pins s σ H _ I h) λus s1 ⟨vs,H1,I1,r1,q1⟩=>?_) (by rw[hs,hs2]) (by rw[hs2];rfl)));obtain⟨a,b,e,⟨xs,qa⟩,⟨ys,qb⟩,q⟩:=q1;subst e;cases r1 with
 |cons r rr=>
  cases rr with
  |cons r' rr=>
   cases rr;cases r;cases r';obtain⟨its,rv,pp,_⟩:=I1.tuple qa;obtain⟨jts,rw',pp',_⟩:=I1.tuple qb;have la:a < s1.heap.objs.size:=by obtain⟨_,e,_⟩:=id pp;exact A0 e
   have lb:b < s1.heap.objs.size:=by obtain⟨_,e,_⟩:=id pp';exact A0 e
   refine Wo (show s1.heap.IsTuple a its.toArray from pp) (show s1.heap.IsTuple b jts.toArray from pp') λh' a1 a2 a3 a4 a5 a6=>wpAny_pyIter_zip (s:={ s1 with heap:=h'}) a1 ?_;refine⟨_,_,_,_,H1,rfl,I1.kept (t':=s1.toks) a6,VF (zipApart_new la lb),⟨a1,a2,⟨_,_,a3⟩,a4,a5⟩,λc hc=>?_,q⟩;have hlt:s1.heap.objs.size<=c:=by
    simp only[Aq,Av,or_false]at hc;rcases hc with rfl|rfl|rfl|rfl|rfl<;>omega
   exact I1.fpOk hlt (I1.hok.fresh hlt)
end L2
namespace DL
open PySem L2 Nb
section
variable{X:Cx}{a b:Expr}{ta tb:TE}{wa wb:DT}{pos p:Pos}{K:Ag}
def zI(w w':DT):gG:=λδ n Q=>w δ n λx n1=>w' δ n1 λy n2=>match x,y with
 |.d (.tuple xs),.d (.tuple ys)=>ys.length<=xs.length/\Q (gk xs ys) n2
 |_,_=>False
theorem R0{elts:List Expr}{kk:Nat}{tpos:Pos}(hg:Gl X "zip")(hm:X.mg "zip"=af)(ha:DE X a ta wa)(hb:DE X b tb wb)(hK:X.K=K:=by rfl)(hs:A8 [a,b] X.env=[(ai,eval a X.env),(ai,eval b X.env)]:=by rfl)(hs2:A8 [b] X.env=[(ai,eval b X.env)]:=by rfl)
  (he1:A8 [a,b] X.env=(ai,eval a X.env)::A8 [b] X.env:=by rfl) (he2:A8 [b] X.env=(ai,eval b X.env)::A8 [] X.env:=by rfl):
  DI X (.Tuple elts kk tpos) (.Call (.Name "zip" p) [a,b] [] pos) (HK K (cK ta (cK tb bF))) (zI wa wb):=by
 subst hK;refine⟨QU hg hm (cH ha.pe (cH hb.pe dS he2) he1) hs hs2,λC H B σ δ n Q Q' R q k=>ha.sd C H B σ δ n _ _ R q λv x H1 n1 R1 k1 r1 q1=>hb.sd C H1 B σ δ n1 _ _ R1 q1 λu y H2 n2 R2 k2 r2 q2=>?_⟩;have r1':=r1.kp k2 R1.bt
 split at q2
 ·rename_i xs ys;cases(show RdX H2 B v (.tuple xs)from r1')with
  |@tup aa vs _ e1 e2 e3 e4=>
   cases(show RdX H2 B u (.tuple ys)from r2)with
   |@tup ab ws _ f1 f2 f3 f4=>
    refine⟨aa,ab,rfl,⟨vs,SqT.of e1⟩,⟨ws,SqT.of f1⟩,k _ (gk xs ys) H2 n2 R2 (k1.trans k2) (λfz th=>?_) q2.2⟩;have za:fz aa=ae (.tup vs):=th.2 _ _ e1 e2;have zb:fz ab=ae (.tup ws):=th.2 _ _ f1 f2;have lz:(gk xs ys).length=ys.length:=by unfold gk;rw[List.length_zipWith];have:=q2.1;omega
    have le:=q2.1;have l1:=e4.len;have l2:=f4.len;refine⟨by rw[lz,<-f4.len];exact f3,λi H hH hi=>?_,λH hH=>?_,λi H x H' d hH hd hy=>?_⟩
    ·rw[lz]at hi;have h1:i < vs.length:=by omega
     have h2:i < ws.length:=by omega
     exact⟨vs,ws,vs[i],ws[i],SqT.of (hH _ _ za),SqT.of (hH _ _ zb),Ar h1,Ar h2⟩
    ·by_cases hq:vs.length<=ws.length
     ·exact .inl ⟨vs,SqT.of (hH _ _ za),by rw[lz];omega⟩
     ·have hq':ws.length < vs.length:=by omega
      exact .inr ⟨vs,ws,vs[ws.length],SqT.of (hH _ _ za),SqT.of (hH _ _ zb),by rw[lz,<-l2];exact Ar hq',by rw[lz,l2];exact Ay _⟩
    ·obtain⟨T,x1,y1,rfl,hT,rfl,hx,hy⟩:=hy;refine⟨λb o e=>by rw[bc (b5 e hT)];exact e,λB' hB hBa=>?_⟩;have hi2:i < ys.length:=by rw[<-lz];exact(Bu.mp hd).1
     have hi:i < xs.length:=by omega
     have ed:d=.tuple [xs[i],ys[i]]:=by
      unfold gk at hd;rw[List.getElem?_zipWith,Ar hi,Ar hi2]at hd;exact(B3 hd).symm
     subst ed;obtain⟨u1,hu1,ru1⟩:=e4.getD (Ar hi);obtain⟨u2,hu2,ru2⟩:=f4.getD (Ar hi2);have t1:=hx _ (SqT.of (hH _ _ za));have t2:=hy _ (SqT.of (hH _ _ zb));rw[hu1]at t1;rw[hu2]at t2;cases t1;cases t2;have mv:∀b o,H2 b=ae o->¬B b->upd H T (.tup [x1,y1]) b=ae o/\¬B' b:=λb o e ne=>by
      have:=hH _ _ (th.2 _ _ e ne);exact⟨by rw[bc (b5 this hT)];exact this,hB _ _ (th.2 _ _ e ne)⟩
     exact .tup bL (λz=>hBa T z hT) (by show 2<=A6;decide) (.cons (ru1.move mv) (.cons (ru2.move mv) .nil))
 ·exact q2.elim
end
end DL
namespace L2
open PySem PySem.Spec PyProof.Rows
def vv(K:Ag):R2:=λx y H Q=>∃a b ys,x=.ref a/\y=.ref b/\SqT K H a []/\SqT K H b ys/\Q (.ref b) H
theorem YN:OpR X (Fd .Add) (vv X.K):=by
 intro pins s σ H x y v u Q I rx ry h;obtain⟨a,b,ys,rfl,rfl,ha,hb,q0⟩:=h;cases(show v=B8 a from rx);cases(show u=B8 b from ry);obtain⟨its,r1,p1,_⟩:=I.tuple ha;obtain⟨its2,r2,p2,_⟩:=I.tuple hb;obtain⟨⟨cls,dd,data,sl⟩,ho,hc,n,hd⟩:=id p1;obtain⟨⟨cls2,dd2,data2,sl2⟩,ho2,hc2,n2,hd2⟩:=id p2;simp only at hc hd hc2 hd2;subst hc hd hc2 hd2;have hi:its=[]:=r1.nil_iff.mpr rfl;exact concat_meets ⟨_,ho,rfl⟩ ⟨_,ho2,rfl⟩ noFill_tuple_add seq_tuple_add Gd Ga (F4 _ _)
  (tuple_addW0 a b its.toArray its2.toArray n n2 dd dd2 sl sl2 (by simp[hi])) ⟨ho,ho2,⟨.ref b,H,I,rfl,q0⟩⟩
end L2
namespace DL
open PySem L2 Nb
section
variable{X:Cx}{a b:Expr}{ta tb:TE}{wa wb:DT}{pos p:Pos}{K:Ag}
def iQ:Wv->Wv->Int->DQ->Prop:=λx y n Q=>match x,y with
 |.d (.tuple []),.d (.tuple j)=>Q ‹j› n
 |x,y=>de x y n Q
theorem W4:bC (λx y H Q=>mJ K x y H Q\/vv K x y H Q) iQ:=λC H B σ δ n x y p q Q Q' R rx ry h1 k=>by
 unfold iQ at h1
 split at h1
 ·rename_i j;cases(show RdX H B x (.tuple [])from rx)with
  |@tup ax xs _ e1 e2 e3 e4=>
   cases(show RdX H B y (.tuple j)from ry)with
   |@tup ay ys _ f1 f2 f3 f4=>
    cases e4;exact .inr ⟨ax,ay,ys,rfl,rfl,SqT.of e1,SqT.of f1,k _ _ H n R (Kp.refl _ _) (wd (show RdX H B _ (.tuple j)from .tup f1 f2 f3 f4)) h1⟩
 ·exact .inl (BZ C H B σ δ n x y _ _ Q Q' R rx ry h1 k)
theorem P5(ha:DE X a ta wa)(hb:DE X b tb wb)(hK:X.K=K:=by rfl):DE X (.BinOp a .Add b pos) (d3 (λx y H Q=>mJ K x y H Q\/vv K x y H Q) ta tb) (w2 wa wb iQ):=by
 subst hK;exact i8 (op_addA.or YN) W4 ha hb
end
end DL
namespace L2
open PySem PySem.Spec PyProof.Rows
end L2
namespace DL
open PySem L2 Nb
end DL
namespace L2
open PySem PySem.Spec PyProof.Rows
end L2
namespace DL
open PySem L2 Nb
end DL
namespace L2
open PySem PySem.Spec PyProof.Rows
end L2
namespace DL
open PySem L2 Nb
end DL
namespace L2
open PySem PySem.Spec PyProof.Rows
end L2
namespace DL
open PySem L2 Nb
end DL
namespace L2
open PySem PySem.Spec PyProof.Rows
end L2
namespace DL
open PySem L2 Nb
theorem X0(ha:DE X a ta wa)(hb:DE X b tb wb):DE X (.BinOp a .Add b pos) (d3 (gg λi j=>.int (i+j)) ta tb) (w2 wa wb (dN λi j=>.int (i+j))):=i8 op_add (Ko λ_ _ _ _=>.int _) ha hb
end DL
namespace L2
open PySem PySem.Spec PyProof.Rows
theorem Jo(hh:A.handled=af)(it t)(hne:t≠it)(xs:Array Aj):Draws P w A it [it,t] xs.size (λi v=>xs[i]?=ae v) (λi h=>h.IsTupleIter it t i/\h.IsTuple t xs) where
 live:=λ_ _ z=>by obtain⟨⟨o,q,_⟩,_⟩:=z;exact⟨o,q⟩
 frame:=λ_ _ _ z k=>⟨z.1.at λo e=>k it (.head _) o e,z.2.at λo e=>k t (.tail _ (.head _)) o e⟩
 item:=λi s Q E hi z k=>tQ z.1 z.2 (x:=xs[i]) (Ek hi) λh' a b=>k _ h' s.toks (Ek hi) ⟨a,z.2.extBut b.extBut hne⟩ b
 done:=λs Q E z k=>zg hh z.1 z.2 (by simp) k
abbrev sO(h:Heap)(l:Addr):Heap:=h.push {cls:=.type "tuple_iterator",data:=.fields #[.ref l,.int 0 0]}
abbrev xZ(h:Heap)(l:Addr):Heap:=(sO h l).push {cls:=.type "enumerate",data:=.fields #[.none,.bool ai,.ref h.objs.size,De 0,.none,.none]}
theorem YD(l)(xs)(n)(dc)(sl):
  Meets (Ez.«enumerate.__new__» ⟨[.type "enumerate",.ref l],[]⟩) (λ_ R s=>s.heap.get? l=ae {cls:=.type "tuple",dict:=dc,data:=.seq xs n,slots:=sl} /\
   R (.ok (.ret (.ref (sO s.heap l).objs.size))) {s with heap:=xZ s.heap l}):=
 .of_wp λP w A R s h=>by
  obtain⟨hp,g,d,tk,os⟩:=s;obtain⟨hl,h⟩:=h;have hsub:=sub_enumerate;have hT:Heap.IsTuple (Shared.heap ⟨hp,g,d,tk,os⟩) l xs:=⟨_,hl,rfl,n,rfl⟩
  wp_walk using F2 hl
  refine wpAny_stack_any λst=>Ap ?_
  split
  ·rename_i c _ _ _ _ _;cases(c==D8 "enumerate")
   ·wp_walk using F2 hl,Em hT
    exact⟨_,rfl,h⟩
   ·wp_walk using F2 hl,Em hT
    exact⟨_,rfl,h⟩
  ·wp_walk using F2 hl,Em hT
   exact⟨_,rfl,h⟩
section
variable{prog:Bs}{w:B5}{A:Cj}{E:Aj->Ao->Prop}{s:Ao}
theorem Ln(hl:s.heap.IsTuple l xs)
  (h:∀h',IsEnum h' (s.heap.objs.size+1) s.heap.objs.size 0 .none->h'.IsTupleIter s.heap.objs.size l 0->(∀c o,s.heap.get? c=ae o->h'.get? c=ae o)->Q (.ref (s.heap.objs.size+1)) {s with heap:=h'}):
  Bd (Bn prog w) A (call (.type "enumerate") [.ref l]) Q E s:=by
 obtain⟨⟨c,dc,dt,sl⟩,hl,hc,n,hd⟩:=hl;obtain rfl:c=.type "tuple":=hc;obtain rfl:dt=.seq xs n:=hd;refine callType_new F.called_enumerate ∎ (F.typeCall_enumerate_1 _) (F.newCall_enumerate_1 _) (λo=>F.args_object_init_2 o _) F.entry_enumerate_new (YD l xs n dc sl) ⟨hl,?_⟩;have z1:(sO s.heap l).objs.size=s.heap.objs.size+1:=Cs ..;have g2:(xZ s.heap l).get? (sO s.heap l).objs.size=ae _:=Ba _ rfl;have g1:(xZ s.heap l).get? s.heap.objs.size=ae _:=Ai _ (Ba _ rfl);show _/\_;rw[z1]at g2 ⊢;exact⟨⟨_,g2,rfl⟩,h _ g2 ⟨_,g1,rfl,rfl⟩ λc o x=>Ai _ (Ai _ x)⟩
end
def xR(K:Ag)(a:Addr):It:=
 ⟨λi H=>∃xs x,SqT K H a xs/\xs[i]?=ae x,
  λi H v H'=>∃T x,v=.ref T/\H T=af/\H'=upd H T (.tup [.int i,x])/\∀xs,SqT K H a xs->xs[i]?=ae x,
  λi H=>∃xs,SqT K H a xs/\xs.length=i⟩
theorem EF{K:Ag}(h1:e≠it)(h2:a≠it)(h3:e≠a):Turn P w K (.Tuple elts kk pos) (xR K a) [e,it] e
  (λi h=>(∃old,IsEnum h e it i old)/\h.IsTupleIter it a i) where
 mem:=by simp
 obj:=λi h st c hc=>by
  obtain⟨⟨x,he⟩,⟨o1,e1,c1,d1⟩⟩:=st;simp only[Aq,Av,or_false]at hc;rcases hc with rfl|rfl
  ·exact⟨_,he,λv q=>by have q':Data.fields _=Data.cell v:=q;cases q'⟩
  ·exact⟨o1,e1,λv q=>by rw[d1]at q;cases q⟩
 keep:=λi h h' st k=>⟨st.1.imp λ_ q=>k e (by simp) _ q,st.2.at λo q=>k it (by simp) o q⟩
 item:=by
  intro X hP hw hK hc i pins s σ H E I hf st hg;subst hP hw hK;obtain⟨⟨old,he⟩,hi⟩:=st;obtain⟨xs,x,qa,ex⟩:=hg;obtain⟨its,rv,p,_⟩:=I.tuple qa;obtain⟨u,hu,ru⟩:=rv.get ex;have hlt:i < its.toArray.size:=by simpa using(Bu.mp hu).1
  have hef:e∉[it,a]:=λz=>by
   simp only[Aq,Av,or_false]at z;exact z.elim h1 h3
  refine wpAny_pyNext_enum_itemD (Jo (A:=X.A.in1) (I.ok.hd hc) it a h2 its.toArray) he ⟨hi,show s.heap.IsTuple a its.toArray from p⟩ hlt h1 hef λy h' tk a1 a2 a3 a4 a5 a6=>⟨_,rfl,?_⟩;obtain rfl:u=y:=by
   rw[List.getElem?_toArray,hu]at a1;cases a1;rfl
  refine wpAny_letOwnedTupleGo_enum (s:={ s with heap:=h',toks:=tk+1}) a2 λh'' b1 b2=>?_;have T:h''.get? s.heap.objs.size=ae {cls:=.type "tuple",data:=.seq #[.int i tk,u]}:=b2.extBut _ _ (Ef (A0 he)) a4;have Tn:H s.heap.objs.size=af:=I.hok.fresh (Ay _);have kp:∀c o,c∉[e,it]->s.heap.get? c=ae o->h''.get? c=ae o:=λc o hc e=>by
   simp only[Aq,Av,or_false,not_or]at hc;exact b2.extBut _ _ hc.1 (a6 c o hc.1 hc.2 e)
  refine⟨.ref s.heap.objs.size,upd H s.heap.objs.size (.tup [.int i,x]),I.many (t':=tk+1) hf kp (Ay _) ⟨by show 2<=A6;decide,[.int i tk,u],.cons ⟨tk,rfl⟩ (.cons ru .nil),_,T,rfl,⟨_,rfl⟩,rfl⟩,rfl,⟨_,x,rfl,Tn,rfl,λzs q=>by rw[I.tuple_inj q qa];exact ex⟩,
   ⟨⟨u,by rw[show((i+1:Nat):Int)=(i:Int)+1 from rfl];exact b1⟩,a3.1.extBut b2.extBut h1.symm⟩,λc hc=>?_⟩
  have hlt:c < s.heap.objs.size:=by
   simp only[Aq,Av,or_false]at hc;rcases hc with rfl|rfl
   ·exact A0 he
   ·obtain⟨_,e,_⟩:=hi;exact A0 e
  rw[bc (Bq hlt)];exact(hf c hc).1
 done:=by
  intro X hP hw hK hc i pins s σ H E I hf st hg;subst hP hw hK;obtain⟨⟨old,he⟩,hi⟩:=st;obtain⟨xs,hq,hx⟩:=hg;obtain⟨its,rv,p,_⟩:=I.tuple hq;have hl:=rv.length;have hs:its.toArray.size=i:=by simp;omega
  refine wpAny_pyNext_enum_endD (Jo (A:=X.A.in1) (I.ok.hd hc) it a h2 its.toArray) he (by rw[hs];exact⟨hi,p⟩) λh' k=>⟨rfl,I.many0 (t':=s.toks) hf λc o hc e=>?_⟩;simp only[Aq,Av,or_false,not_or]at hc;exact k c o hc.2 e
 self:=λ_ _ _ _ _ st h=>Gq st.1.choose_spec h
def FZ(K:Ag)(ta:TA):TI:=λσ H R=>ta σ H λvs H1=>∃a,vs=[.ref a]/\(∃xs,SqT K H1 a xs)/\R (xR K a) H1
theorem Rw(hg:Gl X "enumerate")(hm:X.mg "enumerate"=af)(ha:PA X [e1] ta)(hs:A8 [e1] X.env=[(ai,eval e1 X.env)]:=by rfl):
  PI X (.Tuple elts kk tpos) (.Call (.Name "enumerate" p) [e1] [] pos) (FZ X.K ta):=by
 intro pins s σ H R I h;refine Call_ (lR I hg hm boot_enumerate (D3 (bh (ha pos pins s σ H _ I h) λus s1 ⟨vs,H1,I1,r1,q1⟩=>?_) (by rw[hs];rfl) rfl));obtain⟨a,e,⟨xs,qa⟩,q⟩:=q1;subst e;cases r1 with
 |cons r rr=>
  cases rr;cases r;obtain⟨its,rv,pp,_⟩:=I1.tuple qa;have la:a < s1.heap.objs.size:=by obtain⟨_,e,_⟩:=id pp;exact A0 e
  refine Ln (show s1.heap.IsTuple a its.toArray from pp) λh' a1 a2 a3=>Gq (s:={ s1 with heap:=h'}) a1 ?_;refine⟨_,_,_,_,H1,rfl,I1.kept (t':=s1.toks) a3,EF (Nat.succ_ne_self _) (Bq la) (Ef (Dq la)),⟨⟨_,a1⟩,a2⟩,λc hc=>?_,q⟩;have hlt:s1.heap.objs.size<=c:=by
   simp only[Aq,Av,or_false]at hc;rcases hc with rfl|rfl<;>omega
  exact I1.fpOk hlt (I1.hok.fresh hlt)
end L2
namespace DL
open PySem L2 Nb
section
variable{X:Cx}{a b e o:Expr}{ta tb te td ty:TE}{wa wb we wd' wy:DT}{pos p p2:Pos}{K:Ag}{H:Hp}{B:Addr->Prop}{l:List (List bg×V)}{m:List (List bg×Aa)}
def YY(m:List (List bg×Aa))(k:List bg):Bool:=m.any λkv=>decide (kv.1=k)
def lC(m:List (List bg×Aa))(k:List bg)(d:Aa):List (List bg×Aa):=if YY m k=ah then m.map (λkv=>if kv.1=k then(kv.1,d)else kv)else m++[(k,d)]
end
section
variable{X:Cx}{a b e o i f:Expr}{ta tb te td ty:TE}{wa wb we wd' wy:DT}{pos p p2:Pos}{K:Ag}
def iu(k:Int)(xs:List Aa):List Aa:=xs.zipIdx.map λq=>.tuple [.int (k+q.2),q.1]
theorem j7:(iu k xs).length=xs.length:=by unfold iu;rw[Ab,List.length_zipIdx]
theorem yb{i:Nat}(h:(iu k xs)[i]?=ae d):∃x,xs[i]?=ae x/\d=.tuple [.int (k+i),x]:=by
 unfold iu at h;rw[Bh,List.getElem?_zipIdx]at h;cases e:xs[i]? with
 |none=>rw[e]at h;cases h
 |some x=>
  rw[e]at h;refine⟨x,rfl,?_⟩;have:=B3 h;rw[<-this,Nat.zero_add]
theorem Iy:iu k (x::xs)=.tuple [.int k,x]::iu (k+1) xs:=by
 refine List.ext_getElem? λi=>?_;unfold iu;cases i with
 |zero=>rw[List.zipIdx_cons,A3,Bg,Bg,Int.natCast_zero,Int.add_zero]
 |succ i=>
  rw[Bm,Bh,Bh,List.getElem?_zipIdx,List.getElem?_zipIdx,Bm];cases xs[i]? with
  |none=>rfl
  |some y=>
   show ae (Fx [.int (k+(0+(i+1):Nat)),y])=ae (.tuple [.int (k+1+(0+i:Nat)),y]);have:k+(0+(i+1):Nat)=k+1+(0+i:Nat):=by omega
   rw[this]
def vI(w:DT):gG:=λδ n Q=>w δ n λx n1=>∃xs,x=.d (.tuple xs)/\Q (iu 0 xs) n1
theorem Tr{elts:List Expr}{kk:Nat}{tpos:Pos}(hg:Gl X "enumerate")(hm:X.mg "enumerate"=af)(ha:DE X a ta wa)(hK:X.K=K:=by rfl)(hs:A8 [a] X.env=[(ai,eval a X.env)]:=by rfl)(he1:A8 [a] X.env=(ai,eval a X.env)::A8 [] X.env:=by rfl):
  DI X (.Tuple elts kk tpos) (.Call (.Name "enumerate" p) [a] [] pos) (FZ K (cK ta bF)) (vI wa):=by
 subst hK;refine⟨Rw hg hm (cH ha.pe dS he1) hs,λC H B σ δ n Q Q' R q k=>ha.sd C H B σ δ n _ _ R q λv x H1 n1 R1 k1 r1 q1=>?_⟩;obtain⟨xs,rfl,q2⟩:=q1;cases(show RdX H1 B v (.tuple xs)from r1)with
 |@tup aa vs _ e1 e2 e3 e4=>
  refine⟨aa,rfl,⟨vs,SqT.of e1⟩,k _ (iu 0 xs) H1 n1 R1 k1 (λfz th=>?_) q2⟩;have za:fz aa=ae (.tup vs):=th.2 _ _ e1 e2;refine⟨by rw[j7,<-e4.len];exact e3,λi H hH hi=>?_,λH hH=>?_,λi H x H' d hH hd hy=>?_⟩
  ·rw[j7]at hi;have h1:i < vs.length:=by rw[e4.len];exact hi
   exact⟨vs,vs[i],SqT.of (hH _ _ za),Ar h1⟩
  ·exact⟨vs,SqT.of (hH _ _ za),by rw[j7,e4.len]⟩
  ·obtain⟨T,x1,rfl,hT,rfl,hx⟩:=hy;refine⟨λb o e=>by rw[bc (b5 e hT)];exact e,λB' hB hBa=>?_⟩;obtain⟨y,hy,rfl⟩:=yb hd;obtain⟨u1,hu1,ru1⟩:=e4.getD hy;have t1:=hx _ (SqT.of (hH _ _ za));rw[hu1]at t1;cases t1;have mv:∀b o,H1 b=ae o->¬B b->upd H T (.tup [.int i,x1]) b=ae o/\¬B' b:=λb o e ne=>by
    have:=hH _ _ (th.2 _ _ e ne);exact⟨by rw[bc (b5 this hT)];exact this,hB _ _ (th.2 _ _ e ne)⟩
   rw[Int.zero_add];exact .tup bL (λz=>hBa T z hT) (by show 2<=A6;decide) (.cons (.int _) (.cons (ru1.move mv) .nil))
end
end DL
namespace Nb
open PySem L2 DL
theorem sf{F:Bool->Prop}(h:F (a || b))(hA:F b->A):if a=ah then F ah else A:=by
 cases a with
 |true=>exact h
 |false=>exact hA h
theorem p8{F:Bool->Prop}(h:F (a&&b))(hA:a=ah->F b->A):if a=ah then A else F ai:=by
 cases a with
 |true=>exact hA rfl h
 |false=>exact h
theorem Ih(k:Q (.d (.bool (ot lo hi d))) n):
  if jk d=ah then(bX (λi j=>decide (i<=j)) (λi j=>!decide (j < i)) (~~~lo) (.d d) n λz n3=>iS z (bX (λi j=>decide (i<=j)) (λi j=>!decide (j < i)) (.d d) (~~~hi) n3 Q) (Q (.d (.bool ai)) n3))else Q (.d (.bool ai)) n:=by
 cases d with
 |int i=>
  simp only[jk,if_true,bX,eP];simp only[ot]at k;refine ku (λe=>?_) (λe=>?_)
  ·rw[e]at k;exact k
  ·rw[e]at k;exact k
 |_=>exact k
theorem Ol{Q:DQ}(x:Str)(h:Q (.d (.bool (x.cps.toList.all ie))) n):cM (aF 0) aQ (cV dA dA (wC (.str "a")) ↥0 (wC (.str "z")))
  (λds n1=>match fe ds with|some bs=>Q (.d (.bool (bs.all id))) n1|none=>False) (ig x) [] [af] n:=by
 refine kI lJ (λd=>.bool (okD d)) ?_ _ _ _ _ (Lk x) ?_
 ·rintro d n Q' ⟨c,rfl⟩ k
  simp only[aj,Si,qg,fw,cR,bP,cq,wC,w2,cT,cV,eP,df,cE,bw,aM,ec,cy,ak,ao,aB,aR,aV,az,wB,aG,aq,aw,aX,aT,bD,bW,br,bj,gI,dN,cY,de,bX,bA,iG,bz,gn,aD,aP,bq,Rl,bu,gD,mf,eY,bN,fc,dF,bB,dR,aQ,aF,dO,C9,Bg,Bm,Br,B7,A3,Bo,Cu,gx,gs,gf,fS,f9];refine ku (λe=>?_) (λe=>?_)
  ·simp only[okD,e,Cm]at k;exact k
  ·simp only[okD,e,E2]at k;exact k
 ·show match fe ((ig x).map λd=>.bool (okD d))with|some bs=>Q (.d (.bool (bs.all id))) n|none=>False
  simp only[mh,pK,Yh];exact h
theorem Zy{Q:DQ}(ds:List Aa)(h:Q (.d (.bool (ds.all ck))) n):cM (aF 0) aQ (az (aI ck) (ao ↥0 ak))
  (λds n1=>match fe ds with|some bs=>Q (.d (.bool (bs.all id))) n1|none=>False) ds [] [af] n:=by
 refine kI (λ_=>True) (λd=>.bool (ck d)) ?_ _ _ _ _ (λ_ _=>trivial) ?_
 ·exact λd n Q' _ k=>k
 ·show match fe (ds.map λd=>.bool (ck d))with|some bs=>Q (.d (.bool (bs.all id))) n|none=>False
  simp only[mh,pK];exact h
theorem Zn(h:n < 2 ^ 40)(h0:0 < many)(h1:many < 1073741824)(k:∀r:Int,0<=r->r < many->Q (~~~r) (n+1)):cU [.tp,.d (.int many)] n Q:=⟨⟨h,h0,h1⟩,k⟩
theorem oM(h0:0<=r)(h1:r < (ds.length:Int))(k:∀d∈ds,Q (.d d) n):aD (.d (.list ds)) (~~~r) n Q:=by
 obtain⟨v,hv,hm⟩:=yo h0 h1;show match cF ds r with|some d=>Q (.d d) n|none=>False
 simp only[hv];exact k v hm
theorem OO{rest:Sl}(c:Nat)(h:∀d n Q',n+(c:Int) < 2 ^ 39->(∀y n',n'<=n+(c:Int)->Q' (.d y) n')->w (↑d::rest) n Q'):
  ∀(items acc:List Aa)(x:Option SV)(n:Int),n+(c:Int)*(items.length:Int) < 2 ^ 39->(∀ds n',n'<=n+(c:Int)*(items.length:Int)->Q ds n')->cM (aF 0) aQ w Q items acc (x::rest) n
 |[],acc,x,n,hn,q=>q acc n (by simp)
 |d::r,acc,x,n,hn,q=>by
  simp only[cM,aF,aQ,if_true,Br];rw[Am]at hn q;have e:(c:Int)*((r.length+1:Nat):Int)=(c:Int)*(r.length:Int)+c:=by rw[Int.natCast_add,Int.mul_add];simp
  rw[e]at hn q;have hc:0<=(c:Int)*(r.length:Int):=Int.mul_nonneg (G4 _) (G4 _);refine h d n _ ⋯ λy n' hn'=>?_;exact OO c h r (acc++[y]) _ n' ⋯ λds n'' h''=>q ds n'' ⋯
theorem fE(n):(cO 0 n).length=n:=by unfold cO;simp
theorem uK{rest:Sl}(P:Aa->Prop)(c:Nat)(h:∀d n Q',n+(c:Int) < 2 ^ 39->(∀y n',P y->n'<=n+(c:Int)->Q' (.d y) n')->w (↑d::rest) n Q'):
  ∀(items acc:List Aa)(x:Option SV)(n:Int),n+(c:Int)*(items.length:Int) < 2 ^ 39->(∀ds n',ds.length=items.length->(∀d∈ds,P d)->n'<=n+(c:Int)*(items.length:Int)->Q (acc++ds) n')->cM (aF 0) aQ w Q items acc (x::rest) n
 |[],acc,x,n,hn,q=>by
  have:=q [] n rfl (by simp) (by simp);rwa [A5]at this
 |d::r,acc,x,n,hn,q=>by
  simp only[cM,aF,aQ,if_true,Br];rw[Am]at hn q;have e:(c:Int)*((r.length+1:Nat):Int)=(c:Int)*(r.length:Int)+c:=by rw[Int.natCast_add,Int.mul_add];simp
  rw[e]at hn q;have hc:0<=(c:Int)*(r.length:Int):=Int.mul_nonneg (G4 _) (G4 _);refine h d n _ ⋯ λy n' hy hn'=>?_;refine uK P c h r (acc++[y]) _ n' ⋯ λds n'' hl hds h''=>?_;rw[A9];refine q (y::ds) n'' (by rw[Am,hl]) (λd hd=>?_) ⋯;rcases Aq.mp hd with rfl|z
  ·exact hy
  ·exact hds d z
def gR:Aa->Aa
 |.tuple (_::d::_)=>d
 |_=>.none
def bQ(h:Str)(k:Int):Aa->Bool
 |.tuple ds=>decide ((ds.length:Int)=k)&&(match ds with|a::_=>b7 h a|[]=>ai)
 |_=>ai
def jo(h:Str)(d:Aa):Bool:=bQ h 2 d&&aO 4 (gR d)
def cv(d:Aa):Bool:=if bQ "is" 2 d=ah then ck (gR d)else jo "as" d
def dJ(d:Aa):Bool:=(bQ "any" 1 d || (bQ "word" 1 d || bQ "number" 1 d)) || (cv d || jo "bind" d)
def eR(d:Aa):Bool:=cv d || jo "next" d
def fh:Aa->Bool
 |.tuple ds=>decide ((1:Int)<=(ds.length:Int))&&decide ((ds.length:Int)<=4)
 |_=>ai
def o4:Aa->List Aa
 |.tuple ds=>ds
 |_=>[]
def bY(d:Aa):Bool:=fh d&&(o4 d).all dJ
def ek(d:Aa):Bool:=fh d&&(o4 d).all eR
def ft:bx:=λws n Q=>match ws with
 |[.d d,.d (.str h),.d (.int k)]=>1<=k/\Q (.d (.bool (bQ h k d))) n
 |_=>False
def jb:bx:=λws n Q=>match ws with
 |[.d d,.d (.str h)]=>Q (.d (.bool (jo h d))) n
 |_=>False
theorem eq_str(a)(h):jH a (.str h)=ae (b7 h a):=by cases a<;>rfl
theorem eq_int(i j):jH (.int i) (.int j)=ae (decide (i=j)):=rfl
theorem oX(a)(r:List α):cF (a::r) 0=ae a:=fX (j:=0) rfl
theorem Iu(a b)(r:List α):cF (a::b::r) 1=ae b:=fX (j:=1) rfl
theorem BO(e:bQ h k d=ah):∃ds,d=.tuple ds/\(ds.length:Int)=k:=by
 cases d with
 |tuple ds=>
  refine⟨ds,rfl,?_⟩;have e:(decide ((ds.length:Int)=k)&&_)=ah:=e;rw[Ak]at e;exact of_decide_eq_true e.1
 |_=>cases e
theorem ED(e:bQ h 2 d=ah):∃a b,d=.tuple [a,b]:=by
 obtain⟨ds,rfl,hl⟩:=BO e;rcases ds with _|⟨a,_|⟨b,_|⟨c,r⟩⟩⟩
 ·cases hl
 ·cases hl
 ·exact⟨a,b,rfl⟩
 ·simp only[Am]at hl;omega
section
variable{δ:Sl}{n:Int}{Q:DQ}{K:DEnds}{W V:aL}{i j:Nat}{a b d:Aa}{r ds:List Aa}{h:Str}
theorem aA(h:W δ n {K with nx:=λδ n=>V δ n K}):aq W V δ n K:=h
theorem au(e:δ[i]?=ae (ae (.w x)))(k:Q x n):aj i δ n Q:=by unfold aj;rw[e];exact k
theorem qt{m:Nat}(e:δ[i]?=ae (↑(.tuple ds)))(e2:ds[m]?=ae a)(k:Q (.d a) n):w2 (aj i) (wC (.int (m:Int))) aD δ n Q:=by
 unfold w2;refine au e ?_;unfold wC aD;simp only[fX e2];exact k
theorem fJ(e:δ[i]?=ae (↑(.tuple (a::r))))(k:Q (.d a) n):w2 (aj i) (wC (.int 0)) aD δ n Q:=qt (m:=0) e rfl k
theorem gw(e:δ[i]?=ae (↑(.tuple (a::b::r))))(k:Q (.d b) n):w2 (aj i) (wC (.int 1)) aD δ n Q:=qt (m:=1) e rfl k
theorem Jj(e:δ[i]?=ae (↑d))(k:Q (.d (.bool (b7 h d))) n):w2 (aj i) (wC (.str h)) bA δ n Q:=by
 unfold w2;refine au e ?_;unfold wC bA;simp only[eq_str];exact k
theorem uC(e:δ[i]?=ae (↑(.tuple (a::r))))(k:Q (.d (.bool (b7 h a))) n):w2 (w2 (aj i) (wC (.int 0)) aD) (wC (.str h)) bA δ n Q:=by
 show w2 (aj i) (wC (.int 0)) aD δ n λx n1=>wC (.str h) δ n1 λy n2=>bA x y n2 Q;refine fJ e ?_;unfold wC bA;simp only[eq_str];exact k
theorem iE(k:c δ n λb n1=>if b=ah then W δ n1 K else V δ n1 K):aX c W V δ n K:=k
theorem EY(e:δ[i]?=ae (↑(.tuple (a::r))))(hT:b7 h a=ah->W δ n K)(hF:b7 h a=ai->V δ n K):aX (cT (w2 (w2 (aj i) (wC (.int 0)) aD) (wC (.str h)) bA)) W V δ n K:=by
 unfold aX cT;exact uC e (ku hT hF)
theorem yj(e:δ[i]?=ae (↑(.tuple (a::r))))(z:b7 h a=ai)(hF:V δ n K):aX (cT (w2 (w2 (aj i) (wC (.int 0)) aD) (wC (.str h)) bA)) W V δ n K:=EY e (λq=>by rw[z]at q;cases q) λ_=>hF
theorem Lp(e:δ[i]?=ae (↑(.tuple (a::r))))(z:b7 h a=ah)(hT:W δ n K):aX (cT (w2 (w2 (aj i) (wC (.int 0)) aD) (wC (.str h)) bA)) W V δ n K:=EY e (λ_=>hT) λq=>by rw[z]at q;cases q
end
section
variable{δ:Sl}{n:Int}{Q:DQ}{K:DEnds}{W V:aL}{i j:Nat}{a b d:Aa}{r ds:List Aa}
theorem av(k:wa δ n λx n1=>wb δ n1 λy n2=>g x y n2 Q):w2 wa wb g δ n Q:=k
theorem dz(h:∀Q:DQ,Q (.d x) n->w δ n Q)(k:K.nx (δ.set i (↑x)) n):aT i w δ n K:=h _ k
theorem mq(k:K.nx (δ.set i (ae (.own []))) n):bD i (aR ak) δ n K:=⟨Bf _,k⟩
theorem gO(k:Q (.d a) n):aD ‹(a::r)› (~~~0) n Q:=by
 show(match cF (a::r) 0 with|some d=>Q (.d d) n|none=>False);rw[oX];exact k
theorem gj(k:Q (.d b) n):aD ‹(a::b::r)› (~~~1) n Q:=by
 show(match cF (a::b::r) 1 with|some d=>Q (.d d) n|none=>False);rw[Iu];exact k
theorem pB(k:Q (.d c) n):aD ‹(a::b::c::r)› (~~~2) n Q:=by
 show(match cF (a::b::c::r) 2 with|some d=>Q (.d d) n|none=>False);rw[show cF (a::b::c::r) 2=ae c from fX (j:=2) rfl];exact k
theorem aJ(k:Q (.d c) n):wC c δ n Q:=k
theorem aZ(k:w δ n λx n1=>g [x] n1 Q):wB g (ao w ak) δ n Q:=k
theorem aW(k:w δ n λx n1=>S [x] n1 Q):az S (ao w ak) δ n Q:=k
theorem dZ(k:w δ n λx n1=>w' δ n1 λy n2=>S [x,y] n2 Q):az S (ao w (ao w' ak)) δ n Q:=k
theorem gA(k:w δ n λx n1=>w' δ n1 λy n2=>w'' δ n2 λz n3=>S [x,y,z] n3 Q):az S (ao w (ao w' (ao w'' ak))) δ n Q:=k
theorem bf(k:w δ n λds n1=>Q (.d (.list ds)) n1):aV w δ n Q:=k
theorem gY{Q:List Aa->Int->Prop}(hw:∀Q:DQ,Q ‹ds› n->w δ n Q)(k:cM g c e Q ds [] (dR fr δ) n):bB fr (bN w) g c e δ n Q:=by
 unfold bB bN;exact hw _ k
theorem fG(e:δ[i]?=ae (↑(.tuple ds)))(k:Q (~~~ds.length) n):wB aP (ao (aj i) ak) δ n Q:=aZ (au e k)
theorem He(e:δ[j]?=ae (↑(.tuple ds)))(k:K.nx (δ.set i (ae (.own ds))) n):bD i (ky (aj j)) δ n K:=by
 unfold bD ky;exact au e k
theorem aY(k:w δ n K.rt):aw w δ n K:=k
theorem ic(e:δ[i]?=ae (ae (.own ds)))(k:W (δ.set i (↑(.list ds))) n K):bW i W δ n K:=by
 unfold bW;rw[e];exact k
theorem lj(e:δ[i]?=ae (↑(.tuple ds)))(k:Q (.d (.bool ah)) n):bq "tuple" (aj i) δ n Q:=by
 unfold bq;refine au e ?_;show Q (.d (.bool (fq "tuple" (.tuple ds)))) n;rw[fS];exact k
theorem aC{Q:Bool->Int->Prop}(hw:∀Q':DQ,Q' (.d (.bool k)) n->w δ n Q')(q:Q k n):cT w δ n Q:=hw _ q
theorem PY(hc:∀Q:Bool->Int->Prop,Q ah n->C δ n Q)(hF:V δ n K):aX (bw C) W V δ n K:=hc _ (by show if (!ah)=ah then _ else _;exact hF)
theorem aU(hc:∀Q:Bool->Int->Prop,Q ai n->C δ n Q)(hF:V δ n K):aX C W V δ n K:=hc _ (by show if ai=ah then _ else _;rw[if_neg Al];exact hF)
theorem bo(hc:∀Q:Bool->Int->Prop,Q ah n->C δ n Q)(hT:W δ n K):aX C W V δ n K:=hc _ (by show if ah=ah then _ else _;grind;exact hT)
theorem oB{Q:Bool->Int->Prop}(ha:∀Q:Bool->Int->Prop,Q ai n->A δ n Q)(hb:B δ n Q):cE A B δ n Q:=ha _ (by show if ai=ah then _ else _;rw[if_neg Al];exact hb)
theorem ye{Q:Bool->Int->Prop}(ha:∀Q:Bool->Int->Prop,Q ah n->A δ n Q)(k:Q ah n):cE A B δ n Q:=ha _ (by show if ah=ah then _ else _;grind;exact k)
theorem gE{Q:Bool->Int->Prop}(ha:∀Q:Bool->Int->Prop,Q k n->A δ n Q)(q:Q (!k) n):bw A δ n Q:=ha _ q
end
theorem eW(I:List Aa->Sl->Int->Prop)(h0:∀δ n,I [] δ n->K.nx δ n)
  (h1:∀d r δ n (N:Sl->Int->Prop),I (d::r) δ n->(∀δ n,I r δ n->N δ n)->g d δ λδ'=>W δ' n {K with nx:=N,ct:=N,bk:=K.nx}):∀ds δ n,I ds δ n->c6 g W K ds δ n
 |[],δ,n,h=>h0 δ n h
 |d::r,δ,n,h=>h1 d r δ n (c6 g W K r) h (eW I h0 h1 r)
section
variable{δ:Sl}{n m:Int}{Q:DQ}{K:DEnds}{W V:aL}{i j:Nat}{ds:List Aa}
theorem k8(e0:δ[0]?=ae (ae (.w .tp)))(hw:∀Q:DQ,Q (~~~m) n->w δ n Q)(h:n < 2 ^ 40)(h0:0 < m)(h1:m < 1073741824)(k:∀r:Int,0<=r->r < m->Q (~~~r) (n+1)):az cU (ao ↥0 (ao w ak)) δ n Q:=
 dZ (au e0 (hw _ (Zn h h0 h1 k)))
theorem iV(e0:δ[0]?=ae (ae (.w .tp)))(h:n < 2 ^ 40)(h0:0 < m)(h1:m < 1073741824)(k:∀r:Int,0<=r->r < m->Q (~~~r) (n+1)):az cU (ao ↥0 (ao (wC (.int m)) ak)) δ n Q:=k8 e0 (λQ q=>aJ q) h h0 h1 k
theorem yV(e0:δ[0]?=ae (ae (.w .tp)))(h:n < 2 ^ 40)(h0:0 < m)(h1:m < 1073741824)(k:∀r:Int,0<=r->r < m->K.nx (δ.set i (↑(.int r))) (n+1)):aT i (az cU (ao ↥0 (ao (wC (.int m)) ak))) δ n K:=iV e0 h h0 h1 k
theorem yC(h0:0<=r)(h1:r < (ds.length:Int))(k:∀d∈ds,Q (.d d) n):a8 (.ln ds) (~~~r) n Q:=by
 obtain⟨v,hv,hm⟩:=yo h0 h1;show(match cF ds r with|some d=>Q (.d d) n|none=>False);rw[hv];exact k v hm
theorem jA(h0:0<=r)(h1:r < (ds.length:Int))(k:∀d∈ds,Q (.d d) n):a8 (.d (.list ds)) (~~~r) n Q:=oM h0 h1 k
theorem kF(e:δ[i]?=ae (ae (.own ds)))(k:Q (.ln ds) n):fL i δ n Q:=by
 unfold fL;rw[e];exact k
theorem iD(e:δ[i]?=ae (ae (.own es)))(hw:∀Q:DQ,Q (.d x) m->w δ n Q)(hl:es.length < 1000000)(k:K.nx (δ.set i (ae (.own (es++[x])))) m):br i w δ n K:=by
 unfold br;rw[e];exact hw _ (An hl k)
theorem k9(e:δ[i]?=ae (ae (.own es)))(k:w δ n λx n1=>match x with
  |.d d=>es.length < 1000000/\K.nx (δ.set i (ae (.own (es++[d])))) n1
  |_=>False):br i w δ n K:=by
 unfold br;rw[e];exact k
theorem dD(k:w δ n λx n1=>w' δ n1 λy n2=>match dO [x,y]with
  |some ds=>ds.length<=1000/\Q ‹ds› n2
  |none=>False):aB (ao w (ao w' ak)) δ n Q:=k
theorem sP(k:w δ n λx n1=>w' δ n1 λy n2=>w'' δ n2 λz n3=>match dO [x,y,z]with
  |some ds=>ds.length<=1000/\Q ‹ds› n3
  |none=>False):aB (ao w (ao w' (ao w'' ak))) δ n Q:=k
theorem lV(k:Q ‹ds› n):iT [.d (.list ds)] n Q:=k
theorem mE(e:δ[i]?=ae (↑(.int a)))(hT:a < b->W δ n K)(hF:¬a < b->V δ n K):aX (cT (w2 (aj i) (wC (.int b)) eV)) W V δ n K:=by
 refine iE (av (au e (aJ ?_)));show if decide (a < b)=ah then _ else _
 by_cases h:a < b
 ·rw[if_pos (decide_eq_true h)];exact hT h
 ·rw[if_neg (by simpa using h)];exact hF h
end
section
variable{δ:Sl}{n m:Int}{Q:DQ}{K:DEnds}{W V:aL}{i j:Nat}{ds:List Aa}
theorem ZL(k:w δ n λx n1=>w' δ n1 λy n2=>w'' δ n2 λz n3=>v δ n3 λu n4=>match dO [x,y,z,u]with
  |some ds=>ds.length<=1000/\Q ‹ds› n4
  |none=>False):aB (ao w (ao w' (ao w'' (ao v ak)))) δ n Q:=k
theorem iU(k:Q (.d (.list [])) n):aV (aR ak) δ n Q:=An (Bf _) k
theorem jU(k:Q (.d (.bool ds.isEmpty)) n):cf (.ln ds) (.d (.list [])) n Q:=k
theorem lS(k:Q (.d (.bool (decide (a=b)))) n):cf (~~~a) (~~~b) n Q:=k
theorem oA(e:δ[i]?=ae (↑(.int a)))(hT:a=b->W δ n K)(hF:¬a=b->V δ n K):aX (cT (w2 (aj i) (wC (.int b)) cf)) W V δ n K:=by
 refine iE (av (au e (aJ ?_)));show if decide (a=b)=ah then _ else _
 by_cases h:a=b
 ·rw[if_pos (decide_eq_true h)];exact hT h
 ·rw[if_neg (by simpa using h)];exact hF h
theorem xt(e:δ[i]?=ae (↑(.int a)))(hT:b < a->W δ n K)(hF:¬b < a->V δ n K):aX (cT (w2 (aj i) (wC (.int b)) k7)) W V δ n K:=by
 refine iE (av (au e (aJ ?_)));show if decide (b < a)=ah then _ else _
 by_cases h:b < a
 ·rw[if_pos (decide_eq_true h)];exact hT h
 ·rw[if_neg (by simpa using h)];exact hF h
end
theorem oO(hs:List Str):(hs.map A7).all jq=ah:=by
 rw[Be];intro d hd;obtain⟨x,_,rfl⟩:=Bi.mp hd;rfl
theorem Ju{n m:Int}(e:δ[0]?=ae (ae (.w .tp)))(hl:∀Q:DQ,Q (.d (.list L)) n->wl δ n Q)(hn:n < 2 ^ 40)(hm:m=L.length)(h0:0 < m)(h1:m < 1000)(hL:∀d∈L,∃j:Nat,j<=M/\d=.int j)(hM:M<=1000)(k:∀j:Nat,j<=M->c6 g W K (cO 0 j) δ (n+1)):
  bj (dF (w2 wl (az cU (ao ↥0 (ao (wC (.int m)) ak))) a8)) g W δ n K:=by
 unfold bj dF;refine av (hl _ (iV e hn h0 ⋯ λr r0 r1=>jA r0 ⋯ λd hd=>?_));obtain⟨j,hj,rfl⟩:=hL d hd;refine An ⟨by omega,by omega⟩ ?_;rw[B6];exact k j hj
theorem OX(k:Q (~~~ds.length) n):iF [.ln ds] n Q:=k
theorem eZ(h:xs[i]?=ae x)(k:Q (.d x) n):aD ‹xs› (~~~(i:Nat)) n Q:=by
 show(match cF xs ((i:Nat):Int)with|some d=>Q (.d d) n|none=>False);rw[fX h];exact k
theorem IP(xs:List Aa)(hp:p<=xs.length):bI xs af (ae (p:Int))=xs.take p:=by
 unfold bI;rw[HT.sIx_nat];show(xs.drop 0).take (min p xs.length-0)=_;rw[List.drop_zero,Nat.sub_zero,Nat.min_eq_left hp]
def ZQ:bx:=λws n Q=>match ws with
 |[.d d,.d (.int k)]=>Q (.d (.bool (aO k d))) n
 |_=>False
def ZT(bare named:List Aa):Aa->Bool
 |.tuple [.str x]=>bG (.str x) bare
 |.tuple [.str x,b]=>(decide (x="is")&&ck b) || (bG (.str x) named&&aO 4 b)
 |_=>ai
def eI(k:Nat)(d:Aa):Aa:=(o4 d).getD k .none
def fj:Aa->Bool
 |.int i=>decide (0<=i)
 |_=>ai
def gX(d:Aa):Bool:=bQ "lay" 3 d&&(ek (eI 1 d)&&cj (eI 2 d))
def gV(h:Str)(d:Aa):Bool:=bQ h 2 d&&bY (eI 1 d)
def lW(d:Aa):Bool:=bQ "look" 3 d&&(bY (eI 1 d)&&fj (eI 2 d))
def iX(d:Aa):Bool:=bQ "same" 4 d&&(cv (eI 1 d)&&(cv (eI 2 d)&&fj (eI 3 d)))
def lU(d:Aa):Bool:=bQ "go" 2 d&&fj (eI 1 d)
def cP(d:Aa):Bool:=(gX d || (gV "take" d || gV "read" d)) || (lW d || (iX d || lU d))
def kG:Aa->Str
 |.str x=>x
 |_=>⟨#[]⟩
def gc:List Aa->Bool
 |a::b::r=>decide ((kG a).cps.toList < (kG b).cps.toList)&&gc (b::r)
 |_=>ah
def fF:Aa->Bool
 |.tuple ds=>decide ((ds.length:Int)<=4)&&(ds.all (aO 4)&&gc ds)
 |_=>ai
def jc:Aa->Bool
 |.tuple ds=>decide ((ds.length:Int)<=8)&&ds.all cP
 |_=>ai
def gS:Aa->Bool
 |.tuple [a,b]=>fF a&&jc b
 |_=>ai
abbrev jM:Int:=1000000000000000000000000000000
inductive Th:Nat->Nat->Aa->Prop
 |non {L k:Nat}:Th L k .none
 |bool {L k:Nat} (b:Bool):Th L k (.bool b)
 |int {L k:Nat} (i:Int):-(jM+(L:Int))<=i->i<=jM+(L:Int)->Th L k (.int i)
 |str {L k:Nat} (x:Str):x.length<=60->Bw x=ah->Th L k (.str x)
 |list {L k:Nat} {ds:List Aa}:ds.length<=L->(∀d∈ds,Th L k d)->Th L (k+1) (.list ds)
 |tuple {L k:Nat} {ds:List Aa}:ds.length<=L->(∀d∈ds,Th L k d)->Th L (k+1) (.tuple ds)
mutual
def fV(L:Nat):Nat->Aa->Bool
 |_,.none=>ah
 |_,.bool _=>ah
 |_,.int i=>decide (-(jM+(L:Int))<=i)&&decide (i<=jM+(L:Int))
 |_,.str x=>decide (x.length<=60)&&Bw x
 |k,.list ds=>decide (0 < k)&&(decide (ds.length<=L)&&pF L (k-1) ds)
 |k,.tuple ds=>decide (0 < k)&&(decide (ds.length<=L)&&pF L (k-1) ds)
 |_,.dict _=>ai
def pF(L:Nat):Nat->List Aa->Bool
 |_,[]=>ah
 |k,d::r=>fV L k d&&pF L k r
end
mutual
theorem Lc(L:Nat):∀(d:Aa)(k:Nat),fV L k d=ah->Th L k d
 |.none,_,_=>.non
 |.bool b,_,_=>.bool b
 |.int i,_,h=>by
  rw[fV,Ak]at h;exact .int i (of_decide_eq_true h.1) (of_decide_eq_true h.2)
 |.str x,_,h=>by
  rw[fV,Ak]at h;exact .str x (of_decide_eq_true h.1) h.2
 |.list ds,k,h=>by
  rw[fV,Ak,Ak]at h;have h0:=of_decide_eq_true h.1;have:=Th.list (of_decide_eq_true h.2.1) (wk L ds (k-1) h.2.2);rw[show k-1+1=k by omega]at this;exact this
 |.tuple ds,k,h=>by
  rw[fV,Ak,Ak]at h;have h0:=of_decide_eq_true h.1;have:=Th.tuple (of_decide_eq_true h.2.1) (wk L ds (k-1) h.2.2);rw[show k-1+1=k by omega]at this;exact this
 |.dict _,_,h=>by rw[fV]at h;cases h
theorem wk(L:Nat):∀(ds:List Aa)(k:Nat),pF L k ds=ah->∀d∈ds,Th L k d
 |[],_,_,d,hd=>by simp at hd
 |a::r,k,h,d,hd=>by
  rw[pF,Ak]at h;exact(Aq.mp hd).elim (λe=>e▸Lc L a k h.1) λhd=>wk L r k h.2 d hd
end
theorem U9(h:fV L k d=ah):Th L k d:=Lc L d k h
theorem Th.mono(h:Th L k d):∀{L' k':Nat},L<=L'->k<=k'->Th L' k' d:=by
 induction h with
 |non=>exact λ_ _=>.non
 |bool b=>exact λ_ _=>.bool b
 |int i h1 h2=>exact λa _=>.int i ⋯ ⋯
 |str x h1 h2=>exact λ_ _=>.str x h1 h2
 |list h1 _ ih=>
  intro L' k' a b;obtain⟨j,rfl⟩:∃j,k'=j+1:=⟨k' - 1,by omega⟩;exact .list ⋯ λd hd=>ih d hd a ⋯
 |tuple h1 _ ih=>
  intro L' k' a b;obtain⟨j,rfl⟩:∃j,k'=j+1:=⟨k' - 1,by omega⟩;exact .tuple ⋯ λd hd=>ih d hd a ⋯
def cW(ks:List Str):Aa:=.tuple (ks.map .str)
def rY:List Aa:=[.str "a",.int 0,.int 1,.str "ab",.str "go",.int 99]
inductive Fe where
 |any|word|num|isv (d:Aa)|bind (k:Str)|as (k:Str)|nx (k:Str)
def Fe.hd:Fe->Str
 |.any=>"any"
 |.word=>"word"
 |.num=>"number"
 |.isv _=>"is"
 |.bind _=>"bind"
 |.as _=>"as"
 |.nx _=>"next"
def Fe.tl:Fe->List Aa
 |.any=>[]
 |.word=>[]
 |.num=>[]
 |.isv d=>[d]
 |.bind k=>[.str k]
 |.as k=>[.str k]
 |.nx k=>[.str k]
def Fe.d(f:Fe):Aa:=.tuple (.str f.hd::f.tl)
def eu(k:Str):Prop:=aO 4 (.str k)=ah/\Bw k=ah
def kU(d:Aa):Bool:=ck d&&fV 60 0 d
def Fe.ok:Fe->Prop
 |.isv d=>kU d=ah
 |.bind k=>eu k
 |.as k=>eu k
 |.nx k=>eu k
 |_=>True
def Fe.bd:Fe->Option Str
 |.bind k=>ae k
 |_=>af
def Fe.us:Fe->Option Str
 |.as k=>ae k
 |.nx k=>ae k
 |_=>af
def a9(fs:List Fe):List Str:=fs.filterMap Fe.bd
def Fe.pt:Fe->Bool
 |.nx _=>ai
 |_=>ah
def Fe.tm:Fe->Bool
 |.isv _=>ah
 |.as _=>ah
 |.nx _=>ah
 |_=>ai
def Fe.te:Fe->Bool
 |.isv _=>ah
 |.as _=>ah
 |_=>ai
def cQ(fs:List Fe):Prop:=fs.length<=4/\∀f∈fs,f.ok
def rF:List Str->List Fe->Prop
 |_,[]=>True
 |ks,f::r=>(∀k,f.us=ae k->k∈ks)/\rF (ks++f.bd.toList) r
inductive Ac where
 |lay (fs:List Fe) (age:Aa)|take (fs:List Fe)|read (fs:List Fe)|look (fs:List Fe) (b:Nat)|same (f g:Fe) (b:Nat)|go (b:Nat)
def bJ(fs:List Fe):Aa:=.tuple (fs.map Fe.d)
def Ac.d:Ac->Aa
 |.lay fs age=>.tuple [.str "lay",bJ fs,age]
 |.take fs=>.tuple [.str "take",bJ fs]
 |.read fs=>.tuple [.str "read",bJ fs]
 |.look fs b=>.tuple [.str "look",bJ fs,.int b]
 |.same f g b=>.tuple [.str "same",f.d,g.d,.int b]
 |.go b=>.tuple [.str "go",.int b]
def Ac.bs:Ac->List Str
 |.take fs=>a9 fs
 |.read fs=>a9 fs
 |.look fs _=>a9 fs
 |_=>[]
def Ac.fs:Ac->List Fe
 |.lay fs _=>fs
 |.take fs=>fs
 |.read fs=>fs
 |.look fs _=>fs
 |.same f g _=>[f,g]
 |.go _=>[]
def Ac.to:Ac->Option Nat
 |.look _ b=>ae b
 |.same _ _ b=>ae b
 |.go b=>ae b
 |_=>af
def Ac.right(wants:List (List Str))(ks:List Str)(a:Ac):Prop:=rF ks a.fs/\∀b,a.to=ae b->∃w,wants[b]?=ae w/\∀k∈w,k∈ks
def iO(d:Aa):Prop:=d=.none\/∃i:Int,d=.int i/\1<=i/\i<=20
def gM(fs:List Fe):Prop:=1<=fs.length/\∀f∈fs,f.pt=ah
def Ac.pat:Ac->Prop
 |.take fs=>gM fs
 |.read fs=>gM fs
 |.look fs _=>gM fs
 |.lay fs age=>(∀f∈fs,f.tm=ah)/\iO age/\1<=fs.length
 |.same f g _=>f.te=ah/\g.te=ah
 |.go _=>True
def gC(a:Ac):Prop:=cQ a.fs/\a.pat
abbrev Bl:=List Str×List Ac
def bR(b:Bl):Aa:=.tuple [cW b.1,.tuple (b.2.map Ac.d)]
def bE(bs:List Bl):Aa:=.tuple (bs.map bR)
def kn(w:List Str)(as:List Ac)(p:Nat):List Str:=w++(as.take p).flatMap Ac.bs
def rC(b:Bl):Prop:=b.1.length<=4/\(∀k∈b.1,eu k)/\b.2.length<=8/\(∀a∈b.2,gC a)/\b.1.Nodup/\vA b.1
def nv(wants:List (List Str))(b:Bl):Prop:=∀(p:Nat)(a:Ac),b.2[p]?=ae a->a.right wants (kn b.1 b.2 p)
def kH:bx:=λws n Q=>ws=[.tp]/\n < 2 ^ 39/\∀v∈rY,Q (.d v) (n+1)
def nN:bx:=λws n Q=>ws=[.tp]/\n < 2 ^ 39/\∀m:Nat,1<=m->m<=4->Q (~~~m) (n+1)
def yT:bx:=λws n Q=>∃ks:List Str,ws=[.tp,.ln (ks.map .str)]/\ks.length<=1000/\(∀k∈ks,eu k)/\n+9 < 2 ^ 39/\∀(fs:List Fe)(n':Int),1<=fs.length->cQ fs->(∀f∈fs,f.tm=ah)->rF ks fs->n'<=n+9->Q (.d (bJ fs)) n'
def tZ:bx:=λws n Q=>∃ks:List Str,ws=[.tp,.ln (ks.map .str)]/\ks.length<=1000/\(∀k∈ks,eu k)/\n+2 < 2 ^ 39/\∀(f:Fe)(n':Int),f.ok->f.te=ah->(∀k,f.us=ae k->k∈ks)->n'<=n+2->Q (.d f.d) n'
def oi:bx:=λws n Q=>∃(ks:List Str)(os:List Nat)(wants:List (List Str)),ws=[.tp,.ln (ks.map .str),.d (.list (os.map λb=>.int (b:Nat)))]/\ks.length<=1000/\(∀k∈ks,eu k)/\0 < os.length/\os.length<=1000 /\
 (∀b∈os,∃w,wants[b]?=ae w/\∀k∈w,k∈ks)/\n+11 < 2 ^ 39/\∀(a:Ac)(n':Int),gC a->a.right wants ks->n'<=n+11->Q ‹[a.d,.list (a.bs.map .str)]› n'
def kZ(bs:List Bl):Prop:=1<=bs.length/\bs.length<=6/\∀b∈bs,rC b/\nv (bs.map (·.1)) b
def zh:bx:=λws n Q=>∃(ks:List Str)(v:Wv),ws=[.tp,v]/\fm v=ae (ks.map .str)/\ks.length<=1000/\(∀k∈ks,eu k)/\n+9 < 2 ^ 39/\∀(fs:List Fe)(n':Int),1<=fs.length->cQ fs->(∀f∈fs,f.pt=ah)->rF ks fs->n'<=n+9->Q ‹[bJ fs,.list ((a9 fs).map .str)]› n'
def gz(bs:List Bl):Prop:=∃w,bs.map (·.1)=[]::w
def yz:bx:=λws n Q=>ws=[.tp]/\n+600 < 2 ^ 39/\∀(bs:List Bl)(n':Int),kZ bs->gz bs->n'<=n+600->Q (.d (bE bs)) n'
def iK:List Str->List Fe->Bool
 |_,[]=>ah
 |ks,f::r=>(match f.us with|some k=>decide (k∈ks)|none=>ah)&&iK (ks++f.bd.toList) r
def jG(P:List Bl)(ks:List Str):Option Nat->Bool
 |none=>ah
 |some b=>match P[b]? with
  |some bl=>bl.1.all λk=>decide (k∈ks)
  |none=>ai
def dg(P:List Bl)(ks:List Str)(a:Ac):Bool:=iK ks a.fs&&jG P ks a.to
def ir(P:List Bl):List Str->List Ac->Bool
 |_,[]=>ah
 |ks,a::r=>dg P ks a&&ir P (ks++a.bs) r
def yG:List Bl->Bool
 |b::_=>b.1.isEmpty
 |[]=>ai
def iR(P:List Bl):Bool:=yG P&&P.all λb=>ir P b.1 b.2
def i4:Aa->Bool
 |.tuple ds=>(decide ((1:Int)<=(ds.length:Int))&&decide ((ds.length:Int)<=6))&&ds.all gS
 |_=>ai
def eS(b:Bl):Prop:=b.1.length<=4/\(∀k∈b.1,eu k)/\b.2.length<=8/\∀a∈b.2,gC a
def kQ(P:List Bl):Prop:=i4 (bE P)=ah/\1<=P.length/\P.length<=6/\∀b∈P,eS b
theorem FA:∀(fs:List Fe){ks ks':List Str},(∀k,k∈ks↔k∈ks')->iK ks fs=iK ks' fs
 |[],_,_,_=>rfl
 |f::r,ks,ks',h=>by
  have ih:=FA r (ks:=ks++f.bd.toList) (ks':=ks'++f.bd.toList) λk=>by rw[Ax,Ax,h k]
  show((match f.us with|some k=>decide (k∈ks)|none=>ah)&&iK (ks++f.bd.toList) r)=((match f.us with|some k=>decide (k∈ks')|none=>ah)&&iK (ks'++f.bd.toList) r);rw[ih];cases f.us with
  |none=>rfl
  |some k=>
   show(decide (k∈ks)&&_)=(decide (k∈ks')&&_);rw[decide_eq_decide.mpr (h k)]
theorem Qp(P)(o)(h:∀k,k∈ks↔k∈ks'):jG P ks o=jG P ks' o:=by
 cases o with
 |none=>rfl
 |some b=>
  show(match P[b]? with|some bl=>bl.1.all λk=>decide (k∈ks)|none=>ai)=(match P[b]? with|some bl=>bl.1.all λk=>decide (k∈ks')|none=>ai);cases P[b]? with
  |none=>rfl
  |some bl=>
   show(bl.1.all λk=>decide (k∈ks))=bl.1.all λk=>decide (k∈ks')
   congr 1
   funext k
   exact decide_eq_decide.mpr (h k)
def jF(P:List Bl)(b:Bl)(p:Nat):Bool:=match b.2[p]? with
 |some a=>dg P (kn b.1 b.2 p) a
 |none=>ah
theorem rP(P):∀(as:List Ac)(w:List Str),ir P w as=(Ce as.length).all (jF P (w,as))
 |[],_=>rfl
 |a::r,w=>by
  have ih:=rP P r (w++a.bs);rw[Am,List.range_succ_eq_map,List.all_cons,Ep];show(dg P w a&&ir P (w++a.bs) r)=_;rw[ih];have e0:jF P (w,a::r) 0=dg P w a:=by
   show dg P (w++[]) a=_;rw[A5]
  rw[e0]
  congr 1
  congr 1
  funext p
  show jF P (w++a.bs,r) p=jF P (w,a::r) (p+1);unfold jF kn;rw[Bm];show(match r[p]? with|some x=>dg P (w++a.bs++(r.take p).flatMap Ac.bs) x|none=>ah)=(match r[p]? with|some x=>dg P (w++(a::r.take p).flatMap Ac.bs) x|none=>ah);rw[Fo,A9]
theorem QB:∀{ks:List Str},rF ks fs->iK ks fs=ah:=by
 induction fs with
 |nil=>intro ks _;rfl
 |cons f r ih=>
  intro ks h;show((match f.us with|some k=>decide (k∈ks)|none=>ah)&&iK (ks++f.bd.toList) r)=ah;rw[ih h.2,Bool.and_true];cases e:f.us with
  |none=>rfl
  |some k=>exact decide_eq_true (h.1 k e)
theorem Ot(h:a.right (P.map (·.1)) ks):dg P ks a=ah:=by
 unfold dg;rw[QB h.1,Cm];cases e:a.to with
 |none=>rfl
 |some b=>
  obtain⟨w,hw,hk⟩:=h.2 b e;rw[Bh]at hw;cases hb:P[b]? with
  |none=>rw[hb]at hw;cases hw
  |some bl=>
   rw[hb]at hw;cases hw;show(match P[b]? with|some bl=>bl.1.all λk=>decide (k∈ks)|none=>ai)=ah;rw[hb];show(bl.1.all λk=>decide (k∈ks))=ah;rw[Be];exact λk hk'=>decide_eq_true (hk k hk')
theorem HV(h:kZ P)(h0:gz P):iR P=ah/\∀b∈P,eS b:=by
 refine⟨?_,λb hb=>?_⟩
 ·unfold iR;rw[Ak];refine⟨?_,?_⟩
  ·obtain⟨w,e⟩:=h0;cases P with
   |nil=>cases e
   |cons b r=>
    rw[A3]at e;have:=(Cr e).1;show b.1.isEmpty=ah;rw[this];rfl
  ·rw[Be];intro b hb;rw[rP,Be];intro p _;unfold jF;cases e:b.2[p]? with
   |none=>rfl
   |some a=>exact Ot ((h.2.2 b hb).2 p a e)
 ·obtain⟨h1,h2,h3,h4,_,_⟩:=(h.2.2 b hb).1;exact⟨h1,h2,h3,h4⟩
def P1:Aa->Option Fe
 |.tuple [.str h]=>if h="any" then ae .any else if h="word" then ae .word else if h="number" then ae .num else af
 |.tuple [.str h,x]=>if h="is" then ae (.isv x)else match x with
  |.str k=>if h="bind" then ae (.bind k)else if h="as" then ae (.as k)else if h="next" then ae (.nx k)else af
  |_=>af
 |_=>af
theorem MI(f:Fe):P1 f.d=ae f:=by
 have n1:¬(("word":Str)="any"):=by decide +kernel
 have n2:¬(("number":Str)="any"):=by decide +kernel
 have n3:¬(("number":Str)="word"):=by decide +kernel
 have n4:¬(("bind":Str)="is"):=by decide +kernel
 have n5:¬(("as":Str)="is"):=by decide +kernel
 have n6:¬(("next":Str)="is"):=by decide +kernel
 have n7:¬(("as":Str)="bind"):=by decide +kernel
 have n8:¬(("next":Str)="bind"):=by decide +kernel
 have n9:¬(("next":Str)="as"):=by decide +kernel
 cases f with
 |any=>
  show(if ("any":Str)="any" then ae Fe.any else if ("any":Str)="word" then ae Fe.word else if ("any":Str)="number" then ae Fe.num else af)=_;grind
 |word=>
  show(if ("word":Str)="any" then ae Fe.any else if ("word":Str)="word" then ae Fe.word else if ("word":Str)="number" then ae Fe.num else af)=_;rw[if_neg n1,if_pos rfl]
 |num=>
  show(if ("number":Str)="any" then ae Fe.any else if ("number":Str)="word" then ae Fe.word else if ("number":Str)="number" then ae Fe.num else af)=_;rw[if_neg n2,if_neg n3,if_pos rfl]
 |isv d=>
  show(if ("is":Str)="is" then ae (Fe.isv d)else match d with|.str k=>if ("is":Str)="bind" then ae (Fe.bind k)else if ("is":Str)="as" then ae (Fe.as k)else if ("is":Str)="next" then ae (Fe.nx k)else af|_=>af)=_;grind
 |bind k=>
  show(if ("bind":Str)="is" then ae (Fe.isv (.str k))else if ("bind":Str)="bind" then ae (Fe.bind k)else if ("bind":Str)="as" then ae (Fe.as k)else if ("bind":Str)="next" then ae (Fe.nx k)else af)=_;rw[if_neg n4,if_pos rfl]
 |as k=>
  show(if ("as":Str)="is" then ae (Fe.isv (.str k))else if ("as":Str)="bind" then ae (Fe.bind k)else if ("as":Str)="as" then ae (Fe.as k)else if ("as":Str)="next" then ae (Fe.nx k)else af)=_;rw[if_neg n5,if_neg n7,if_pos rfl]
 |nx k=>
  show(if ("next":Str)="is" then ae (Fe.isv (.str k))else if ("next":Str)="bind" then ae (Fe.bind k)else if ("next":Str)="as" then ae (Fe.as k)else if ("next":Str)="next" then ae (Fe.nx k)else af)=_;rw[if_neg n6,if_neg n8,if_neg n9,if_pos rfl]
theorem Qd{α:Type}{f:α->Aa}{g:Aa->Option α}(h:∀x,g (f x)=ae x){x y:α}(e:f x=f y):x=y:=by
 have:=h x;rw[e,h y]at this;exact(B3 this).symm
theorem mB{α:Type}{f:α->Aa}(h:∀x y,f x=f y->x=y):∀{l m:List α},l.map f=m.map f->l=m
 |[],[],_=>rfl
 |[],_::_,e=>by cases e
 |_::_,[],e=>by cases e
 |x::l,y::m,e=>by
  rw[A3,A3]at e;obtain⟨e1,e2⟩:=Cr e;rw[h x y e1,mB h e2]
theorem BC(f g:Fe)(e:f.d=g.d):f=g:=Qd MI e
theorem CY(e:bJ l=bJ m):l=m:=mB BC (C8 e)
theorem V5(a b:Ac)(e:a.d=b.d):a=b:=by
 have s:∀{x y:Str}{l m:List Aa},Fx (.str x::l)=.tuple (.str y::m)->x=y/\l=m:=λh=>by
  have:=Cr (C8 h);exact⟨PyData.str.inj this.1,this.2⟩
 cases a<;>cases b<;>first
  |exact absurd (s e).1 ∅
  | (obtain⟨_,e⟩:=s e;simp only[List.cons.injEq,PyData.int.injEq,Int.natCast_inj,and_true]at e;first|(rw[CY e.1,e.2])|(rw[CY e])|(rw[BC _ _ e.1,BC _ _ e.2.1,e.2.2])|(rw[e]))
theorem SQ{l m:List Str}(e:l.map A7=m.map A7):l=m:=mB (λ_ _ e=>PyData.str.inj e) e
theorem Wg(a b)(e:bR a=bR b):a=b:=by
 have:=Cr (C8 e);have h1:=SQ (C8 this.1);have h2:=mB V5 (C8 (Cr this.2).1);exact Prod.ext h1 h2
theorem BB(e:bE P=bE R):P=R:=mB Wg (C8 e)
def h9(d:Aa):Bool:=by
 classical exact if h:∃P,d=bE P/\kQ P then iR h.choose else ai
theorem vK(h:kQ P):h9 (bE P)=iR P:=by
 have e:∃R,bE P=bE R/\kQ R:=⟨P,rfl,h⟩;unfold h9;rw[dif_pos e,<-BB e.choose_spec.1]
theorem EL(h:¬∃P,d=bE P/\kQ P):h9 d=ai:=by
 unfold h9;rw[dif_neg h]
def nX:bx:=λws n Q=>ws=[.tp]/\n < 2 ^ 39/\∀v∈jV,Q (.d v) (n+1)
def lX:bx:=λws n Q=>∃fs:List Fe,ws=[.d (bJ fs)]/\cQ fs/\∀ys:List Str,ys.length<=4->(∀k,k∈ys↔k∈a9 fs)->Q (.d (cW ys)) n
def wF:bx:=λws n Q=>∃(P:List Bl)(i p:Nat)(b:Bl),ws=[.d (bE P),.d (.int i),.d (.int p)]/\P[i]?=ae b/\eS b/\p<=b.2.length/\∀ys:List Str,ys.length<=40->(∀k,k∈ys↔k∈kn b.1 b.2 p)->Q (.d (cW ys)) n
def uu:bx:=λws n Q=>∃a:Ac,ws=[.d a.d]/\Q (.d (bJ a.fs)) n
def bZ(ks:List Str):List Fe->List Fe->Option Nat
 |_,[]=>af
 |dn,f::r=>match f.us with
  |some k=>if k∈ks\/k∈a9 dn then bZ ks (dn++[f]) r else ae dn.length
  |none=>bZ ks (dn++[f]) r
def iB:Option Nat->Aa
 |some k=>.int k
 |none=>.none
def vw:bx:=λws n Q=>∃(fs:List Fe)(ks:List Str),ws=[.d (bJ fs),.d (cW ks)]/\cQ fs/\Q (.d (iB (bZ ks [] fs))) n
def sV:bx:=λws n Q=>∃(P:List Bl)(b:Nat)(ks:List Str),ws=[.d (bE P),.d (.int b),.d (cW ks)]/\Q (.d (.bool (jG P ks (ae b)))) n
def rD:bx:=λws n Q=>∃(P:List Bl)(i:Nat)(b:Bl),ws=[.d (bE P),.d (.int i)]/\P[i]?=ae b/\eS b/\Q (.d (.bool (ir P b.1 b.2))) n
def qJ:bx:=λws n Q=>∃(d:Aa)(L k:Nat),ws=[.d d]/\Th L k d/\L<=40/\k<=18/\Q (.d (.bool (h9 d))) n
abbrev Nt:=List Aa×Aa
def K0(q:Nt):Aa:=.tuple [.tuple q.1,q.2]
def sr(ns:List Nt):Aa:=.tuple (ns.map K0)
abbrev Pg:=List (List Bl)
def vR(ps:Pg):Aa:=.tuple (ps.map bE)
def wY(ps:Pg):Prop:=ps.length<=5/\∀P∈ps,kZ P
def xo(row:List Aa):Prop:=(row.length<=4/\1<=row.length)/\∀d∈row,kU d=ah
def FW(q:Nt):Prop:=xo q.1/\iO q.2
def l5(m:Nat)(ns:List Nt):Prop:=ns.length<=m/\∀q∈ns,FW q
def nj:Aa->Bool
 |.tuple ds=>decide (ds.length<=5)&&ds.all h9
 |_=>ai
def js:Aa->Bool
 |.tuple ds=>decide (ds.length<=12)&&ds.all iz
 |_=>ai
def l3:Aa->Bool
 |.tuple [a,b]=>nj a&&js b
 |_=>ai
abbrev oH(d:Aa):Prop:=∃L k,Th L k d/\L<=40/\k<=18
def xV:bx:=λws n Q=>∃d,ws=[.d d]/\oH d/\Q (.d (.bool (nj d))) n
def o6:bx:=λws n Q=>∃d,ws=[.d d]/\oH d/\Q (.d (.bool (l3 d))) n
def ud:bx:=λws n Q=>∃m:Nat,ws=[.tp,.d (.int m)]/\m<=12/\n+100 < 2 ^ 39/\∀(ns:List Nt)(n':Int),l5 m ns->n'<=n+100->Q (.d (sr ns)) n'
def uI:bx:=λws n Q=>ws=[.tp]/\n+4200 < 2 ^ 39/\∀(ps:Pg)(ns:List Nt)(n':Int),wY ps->(∀P∈ps,gz P)->l5 12 ns->n'<=n+4200->Q ‹[vR ps,sr ns]› n'
end Nb
namespace L2
open PySem PySem.Spec PyProof.Rows PySem.Builtin PySem.Builtin.Str
theorem J2:∀(l:List (Str×Tok)),Vals ((l.map (·.1)).map V.str) (strValues l)
 |[]=>.nil
 |p::r=>.cons ⟨p.2,rfl⟩ (J2 r)
def vJ:V->List V->Hp->VK->Prop:=λx vs H Q=>∃z y,x=.str z/\vs=[.str y]/\(y.length==0)=ai/\z.length+2<=A6/\∀D,H D=af->Q (.ref D) (upd H D (.lst ((D1 z y).map V.str)))
section
variable{X:Cx}
theorem xJ{σ:St}(I:Inv X pins σ H s)(e:l.map (·.1)=D1 z y)(hz:z.length+2<=A6)(q:∀D,H D=af->Q (.ref D) (upd H D (.lst ((D1 z y).map V.str)))):
  EP X pins σ Q (.ref s.heap.objs.size) {s with heap:=s.heap.push {cls:=.type "list",data:=.seq (strValues l).toArray},toks:=k}:=by
 have v:=J2 l;rw[e]at v;have hl:=split_le z y;exact⟨.ref s.heap.objs.size,_,I.lnew v (by rw[Ab];omega),rfl,q _ I.fresh⟩
theorem WD:rm X "str.split" vJ:=by
 intro pins s σ H x xs v us Q I rx rv h;obtain⟨z,y,rfl,rfl,hy,hz,q⟩:=h;obtain⟨t,rfl⟩:=(show ∃t,v=D7 z t from rx);obtain⟨u',rfl,ru⟩:=rv.one;obtain⟨u,rfl⟩:=(show ∃t,u'=D7 y t from ru);have hn:(partsBetween z (occurrences z y 0 z.length (z.length+1)) y.length).length<=A6:=by
  have e1:=StrLaws.occ_length_le z y 0 z.length (z.length+1);rw[length_partsBetween];omega
 have ar:=F.args_str_split_2 (.str z t) (.str y u);by_cases h1:(decide (z.length < y.length) || decide (strKind z < strKind y))=ah
 ·exact call_meets F.slot_str_split (typeIs_str _ _ _) F.entry_str_split ar (meets_str_split_cannot_occur z y t u h1) (xJ (l:=[(z,t)]) (k:=s.toks) I (if_pos h1).symm hz q)
 have h1':=Fq.mpr h1;by_cases hf:(occurrences z y 0 z.length (z.length+1)).isEmpty=ah
 ·exact call_meets F.slot_str_split (typeIs_str _ _ _) F.entry_str_split ar (meets_str_split_not_found z y t u h1' hy hf) (xJ (l:=[(z,t)]) (k:=s.toks) I ((if_neg h1).trans (if_pos hf)).symm hz q)
 refine call_meets F.slot_str_split (typeIs_str _ _ _) F.entry_str_split ar (meets_str_split_sep z y t u h1' hy (Fq.mpr hf) ⋯ hn) ?_;rw[strsFrom_eq];exact xJ (l:=numbered s.toks _) I ((numbered_texts _ _).trans ((if_neg h1).trans (if_neg hf)).symm) hz q
def Jm:V->List V->Hp->VK->Prop:=λx vs H Q=>∃z y,x=.str z/\vs=[.str y]/\Q (.bl (Txt.startswith z y)) H
theorem Y3:rm X "str.startswith" Jm:=by
 intro pins s σ H x xs v us Q I rx rv h;obtain⟨z,y,rfl,rfl,q⟩:=h;obtain⟨t,rfl⟩:=(show ∃t,v=D7 z t from rx);obtain⟨u',rfl,ru⟩:=rv.one;obtain⟨u,rfl⟩:=(show ∃t,u'=D7 y t from ru);exact call_gives F.slot_str_startswith (typeIs_str _ _ _) F.entry_str_startswith (F.args_str_startswith_2 _ _) (gives_str_startswith z y t u) (show(Made.val _).post _ s from⟨.bl _,H,I,rfl,q⟩)
def GN:List V->Hp->VK->Prop:=λxs H Q=>∃z n,xs=[.str z]/\z.length<=640/\intText? z=ae n/\Q (.int n) H
theorem Wf:CallR X (.type "int") GN:=by
 intro pins s σ H xs us Q I r h;obtain⟨z,n,rfl,hl,hn,q⟩:=h;obtain⟨u,rfl,t,rfl⟩:=i5 r;exact PySem.W.KIN.call_text hn hl ⟨.int n,H,I.tok _,⟨_,rfl⟩,q⟩
def nS:V->Option Int->Option Int->Hp->VK->Prop:=λx lo hi H Q=>∃z i,x=.str z/\lo=ae i/\hi=af/\z.length<=A6/\Q (.str (Txt.slice z (ae i) af)) H
theorem Ww:SlR X nS:=by
 intro pins s σ H x v vl vu lo hi sl Q I rx hs pl pu h;obtain⟨z,i,rfl,rfl,rfl,hz,q⟩:=h;obtain⟨t,rfl⟩:=(show ∃t,v=D7 z t from rx);cases pu;cases pl with
 |int i u=>
 refine⟨"str",_,F.slot_str_getitem.lookup,typeIs_str _ _ _,wpAny_getItem_str_slice (l:=ae (i,u)) (u:=af) (st:=af) hs rfl (post_val_or_str ⟨A4 (Txt.slice_le z _ _) hz,λt' k=>⟨.str _,H,I.tok k,⟨t',rfl⟩,q⟩⟩)⟩
end
end L2
namespace Nb
open PySem L2 PySem.Spec PyProof.Rows
def gm(P:Bs)(w:B5)(K:Ag)(q:Addr)(ks:List Str):Prop:=(q==E4)=ai/\∃(o:Obj)(es:Array DictEntry)(ep:Nat)(vs:List (bg×Aj)),K.lookup q=ae o/\o.ExactDict/\o.data=.dict es ep/\KeysOf (fP P w) es/\Pairs (fP P w) es.toList vs/\(vs.map (·.1)).Nodup/\vs.map (·.1)=ks.map Fs
abbrev DO(w:B5)(r:Str×Nat×Aj):DictEntry:=⟨PyData.keyHash w.params r.1,.str r.1 r.2.1,r.2.2⟩
theorem HF{K:Ag}(rs:List (Str×Nat×Aj))(hq:(q==E4)=ai)(hk:K.lookup q=ae o)(ho:o.ExactDict)(hd:o.data=.dict (rs.map (DO w)).toArray ep)(hks:rs.map (·.1)=ks)(hn:ks.Nodup):gm P w K q ks:=by
 subst hks;refine⟨hq,o,_,ep,rs.map λr=>(.inr r.1,r.2.2),hk,ho,hd,?_,?_,?_,?_⟩
 ·intro e he;obtain⟨r,_,rfl⟩:=Bi.mp (List.mem_toArray.mp he);exact⟨.inr r.1,yO r.1 r.2.1,rfl⟩
 ·show Pairs (fP P w) (rs.map (DO w)) _;clear hd hn
  induction rs with
  |nil=>exact .nil
  |cons r rs ih=>exact .cons (yO r.1 r.2.1) rfl (ih)
 ·rw[Ck];have:(rs.map ((λx:bg×Aj=>x.1) ∘ λr:Str×Nat×Aj=>((.inr r.1:bg),r.2.2)))=(rs.map (·.1)).map (Fs:Str->bg):=by rw[Ck];rfl
  rw[this];exact List.pairwise_map.mpr (hn.imp λh e=>h (Sum.inr.inj e))
 ·rw[Ck,Ck];rfl
section
variable{X:Cx}{pins:List (Addr×Obj)}{σ:L2.St}{H:Hp}{s:Ao}{q:Addr}{ks:List Str}
theorem WA{K:Ag}(h:gm P w K q ks):∃ep,∀hp:Heap,K.In hp->∃vs,vs.map (·.1)=ks.map Fs/\hp.DictAt (fP P w) q vs ep:=by
 obtain⟨_,o,es,ep,vs,hk,h2,h3,h4,h5,h6,h7⟩:=h;exact⟨ep,λhp X=>⟨vs,h7,o,es,X _ _ hk,h2,h3,h4,h5,h6⟩⟩
def rj(ks:List Str):It:=⟨λi _=>i < ks.length,λi H x H'=>H'=H/\∃k,ks[i]?=ae k/\x=.str k,λi _=>ks.length<=i⟩
theorem Ym{K:Ag}(hd:∀hp:Heap,K.In hp->∃vs,vs.map (·.1)=ks.map Fs/\hp.DictAt (fP P w) q vs ep):Turn P w K tg (rj ks) [it] it (λi h=>h.IsKeyIter it q i ks.length ep) where
 mem:=by simp
 obj:=λi h st b hb=>by
  have e:b=it:=by simpa using hb
  subst e;obtain⟨o,e,c,d⟩:=st;exact⟨o,e,λv z=>by rw[d]at z;cases z⟩
 keep:=λi h h' st k=>st.at λo e=>k it (by simp) o e
 item:=by
  intro X hP hw hK hc i pins s σ H E I hf st hi;subst hP hw hK;obtain⟨vs,hvs,dd⟩:=hd _ I.kIn;have hlen:ks.length=vs.length:=by have:=congrArg E8 hvs;rw[Ab,Ab]at this;exact this.symm
  have hi':i < vs.length:=by rw[<-hlen];exact hi
  obtain⟨⟨k,v⟩,hx⟩:∃p,vs[i]?=ae p:=⟨vs[i],Ar hi'⟩;obtain⟨y,hy,rfl⟩:∃y,ks[i]?=ae y/\k=.inr y:=by
   have h1:(vs.map (·.1))[i]?=ae k:=by rw[Bh,hx];rfl
   rw[hvs,Bh,Ar hi]at h1;exact⟨ks[i],Ar hi,(B3 h1).symm⟩
  obtain⟨f0,f1,f2,f3,f4,f5⟩:=hf it (by simp);rw[hlen]at st;refine wpAny_pyNext_dict_item st dd hx λkey h' hkey st' sb=>?_;have I1:Inv X pins σ H {s with heap:=h'}:=I.turned (t':=s.toks) (λb o hb e=>(sb.2 b hb).trans e) f0 f1 f3 f4 f5;obtain⟨o',e,c,d⟩:=id st';have rk:RelV (.str y) key:=by
   rcases jL (k:=.inr y) (v:=key) hkey with⟨i,t,e,_⟩|⟨z,t,e,rfl⟩
   ·cases e
   ·cases e;exact⟨t,rfl⟩
  exact⟨key,rfl,pY (s:={ s with heap:=h'}) e c d ∎ ⟨.str y,H,I1,rk,⟨rfl,y,hy,rfl⟩,by rw[hlen];exact st',λb hb=>(hf b hb).1⟩⟩
 done:=by
  intro X hP hw hK hc i pins s σ H E I hf st hi;subst hP hw hK;obtain⟨vs,hvs,dd⟩:=hd _ I.kIn;have hlen:ks.length=vs.length:=by have:=congrArg E8 hvs;rw[Ab,Ab]at this;exact this.symm
  obtain⟨f0,f1,f2,f3,f4,f5⟩:=hf it (by simp);rw[hlen]at st;have hi':ks.length<=i:=hi;exact wpAny_pyNext_dict_end (I.ok.hd hc) st dd (Fn ⋯) λh' eb=>⟨rfl,I.turned (t':=s.toks) (λb o hb e=>eb b o hb e) f0 f1 f3 f4 f5⟩
 self:=λ_ _ _ _ _ st h=>wpAny_pyIter_keyiter st h
def Jc(ks:List Str):TI:=λ_ H R=>R (rj ks) H
theorem T9(hg:Gl X x)(hm:X.mg x=ae (.ref q))(hT:gm X.prog X.w X.K q ks)(hd:(x==("__debug__":Str))=ai:=by decide):PI X tg (.Name x xp) (Jc ks):=by
 intro pins s σ H R I h;refine bh (kO (v:=.ref q) hg hm rfl hd pins s σ H (λv H1=>v=.ref q/\R (rj ks) H1) I ⟨rfl,h⟩) λv s1 ⟨x,H1,I1,r1,e,q1⟩=>?_;subst e;cases r1;obtain⟨ep,hd⟩:=WA hT;obtain⟨vs,hvs,dd⟩:=hd _ I1.kIn;have hlen:ks.length=vs.length:=by have:=congrArg E8 hvs;rw[Ab,Ab]at this;exact this.symm
 refine wpAny_pyIter_dict hT.1 dd ?_;refine⟨s1.heap.objs.size,[s1.heap.objs.size],_,_,H1,rfl,I1.kept (t':=s1.toks) λb o e=>Ai _ e,Ym hd,⟨_,Ba _ rfl,rfl,by rw[hlen];rfl⟩,λb hb=>?_,q1⟩;have e:b=s1.heap.objs.size:=by simpa using hb
 subst e;exact I1.fpOk (Ay _) (I1.hok.fresh (Ay _))
def kd(K:Ag)(q:Addr)(D:List (Str×Int)):Prop:=(q==E4)=ai/\∃(o:Obj)(es:Array DictEntry)(ep:Nat),K.lookup q=ae o/\o.ExactDict/\o.data=.dict es ep/\KTD.Rows (λ(d:Int) v=>∃t,v=.int d t) es.toList D
def nB(D:List (Str×Int)):List (Str×KTD.Dat):=D.map λp=>(p.1,.flat (.int p.2))
theorem EC(k):∀D:List (Str×Int),Bj k (nB D)=(Bj k D).map λs=>.flat (.int s)
 |[]=>rfl
 | (x,s)::D=>by
  show(if decide (k=x)=ah then ae _ else Bj k (nB D))=C9 _ (if decide (k=x)=ah then ae s else Bj k D);rw[EC k D]
  split<;>rfl
theorem Lr:∀D:List (Str×Int),(∀s,Bj k D=ae s->∀t,P (.int s t))->KTD.EachL h k P (nB D)
 |[],_=>trivial
 | (x,s)::D,hp=>by
  by_cases hx:k=x
  ·refine KTD.eachL_hit hx (KTD.opened_int λt=>hp s ?_ t);show(if decide (k=x)=ah then ae s else Bj k D)=ae s;rw[if_pos (decide_eq_true hx)]
  ·refine KTD.eachL_miss hx (Lr D λs' hs' t=>hp s' ?_ t);show(if decide (k=x)=ah then ae s else Bj k D)=ae s';rw[if_neg (by simp[hx])];exact hs'
theorem GL:∀D:List (Str×Int),((nB D).all λp=>KTD.plain p.2)=ah
 |[]=>rfl
 |_::D=>by
  show(ah&&(nB D).all λp=>KTD.plain p.2)=ah;rw[GL D];rfl
def wQ(K:Ag):R2:=λx y H Q=>∃k q D d,x=.ref q/\y=.str k/\kd K q D/\Bj k D=ae d/\Q (.int d) H
theorem O9:IxR X (wQ X.K):=by
 intro value slice pins s σ H x y v u Q I rx ry h hs;obtain⟨k,q,D,d,rfl,rfl,hT,hd,hq⟩:=h;obtain⟨t,rfl⟩:=ry;cases rx;obtain⟨h1,o,es,ep,hk,h2,h3,h4⟩:=hT;have here:KTD.Here s.heap s.heap q (nB D):=⟨⟨h1,o,es,ep,I.kIn q o hk,h2,h3,KTD.Rows.mono (f:=λd:Int=>KTD.Dat.flat (.int d)) (R':=KTD.Dat.At s.heap) (λd v ⟨t,e⟩=>by subst e;exact PyProof.V.Flat.int _ _) h4⟩,λ_ _ e=>e⟩;refine KTD.item_textA here (GL D) (by rw[<-KTD.isSome_datumAt,EC,hd];rfl) (Lr D λd' hd' t'=>?_) hs;rw[hd]at hd';cases hd';exact⟨.int d,H,I.kept (t':=s.toks+1) λ_ _ e=>e,⟨t',rfl⟩,hq⟩
end
end Nb
namespace DL
open PySem L2 Nb
section
variable{X:Cx}{a b e o i:Expr}{ta tb te to ty:TE}{wa wb we wo wy:DT}{pos p ap cp xp p2:Pos}{K:Ag}{q:Addr}{x:Str}{lo hi:Option Expr}
def nZ(wo we:DT):fK:=λδ n Q=>wo δ n λx n1=>match x with
 |.d (.str z)=>we δ n1 λy n2=>match y with
  |.d (.str c)=>((c.length==0)=ai/\z.length<=1000)/\Q ((D1 z c).map .str) n2
  |_=>False
 |_=>False
theorem BR:∀{l:List Str},(∀y∈l,y.length<=1000)->RdXs H B (l.map V.str) (l.map A7)
 |[],_=>.nil
 |y::_,h=>.cons (.str y (jg (h y Ae))) (BR λz hz=>h z (Af _ hz))
theorem JJ(ho:DE X o to wo)(he:DE X e te we)
  (hbase:E6 o "split" X.env (eval o X.env)=eval o X.env:=by rfl)
  (hfew:((Df cp (A8 [e] X.env)).all (λx=>!x.1)&&(backToKw cp (F7 [] X.env)).all (λx=>x.1.isSome)
   && decide ([e].length+([]:List Fb).length+(if ([]:List Fb).isEmpty then 0 else 1) < 30))=ah:=by rfl)
  (hline:(ap.endLine==cp.line)=ah:=by rfl) (hs:A8 [e] X.env=[(ai,eval e X.env)]:=by rfl) (hplain:(Df cp (A8 [] X.env)).any (·.1)=ai:=by rfl) (hK:X.K=K:=by rfl):
  DF X (.Call (.Attribute o "split" ap) [e] [] cp) (jB K "str" vJ to (cK te bF)) (nZ wo we):=by
 subst hK;refine⟨ml PySem.F.plainAttrs_str PySem.F.slot_str_split PySem.F.type_str_split WD ho.pe (cH he.pe dS hs) hbase hfew hline hs hplain,λC H B σ δ n Q Q' R q k=>ho.sd C H B σ δ n _ _ R q λv x H1 n1 R1 k1 r1 q1=>?_⟩
 split at q1
 ·rename_i z;cases(show RdX H1 B v (.str z)from r1);refine⟨rfl,he.sd C H1 B σ δ n1 _ _ R1 q1 λu y H2 n2 R2 k2 r2 q2=>?_⟩
  split at q2
  ·rename_i c;cases(show RdX H2 B u (.str c)from r2);obtain⟨⟨hc,hz⟩,q3⟩:=q2;have hl:=PyProof.Rows.split_le z c;refine⟨z,c,rfl,rfl,hc,A4 (show z.length+2<=1002 by omega) ∎,λD hD=>?_⟩;refine k D _ _ _ n2 (R2.new hD) ((k1.trans k2).trans (Kp.new hD)) (R2.was (k1.trans k2) hD) bL ?_ (BR λy hy=>A4 (PyProof.Rows.part_short hy) hz) q3;rw[Ab];exact A4 (show _<=1002 by omega) ∎
  ·exact q2.elim
 ·exact q1.elim
def jZ(wo we:DT):DT:=λδ n Q=>wo δ n λx n1=>match x with
 |.d (.str z)=>we δ n1 λy n2=>match y with
  |.d (.str c)=>Q (.d (.bool (Txt.startswith z c))) n2
  |_=>False
 |_=>False
theorem Zs(ho:DE X o to wo)(he:DE X e te we)
  (hbase:E6 o "startswith" X.env (eval o X.env)=eval o X.env:=by rfl)
  (hfew:((Df cp (A8 [e] X.env)).all (λx=>!x.1)&&(backToKw cp (F7 [] X.env)).all (λx=>x.1.isSome)
   && decide ([e].length+([]:List Fb).length+(if ([]:List Fb).isEmpty then 0 else 1) < 30))=ah:=by rfl)
  (hline:(ap.endLine==cp.line)=ah:=by rfl) (hs:A8 [e] X.env=[(ai,eval e X.env)]:=by rfl) (hplain:(Df cp (A8 [] X.env)).any (·.1)=ai:=by rfl) (hK:X.K=K:=by rfl):
  DE X (.Call (.Attribute o "startswith" ap) [e] [] cp) (jB K "str" Jm to (cK te bF)) (jZ wo we):=by
 subst hK;refine⟨ml PySem.F.plainAttrs_str PySem.F.slot_str_startswith PySem.F.type_str_startswith Y3 ho.pe (cH he.pe dS hs) hbase hfew hline hs hplain,λC H B σ δ n Q Q' R q k=>ho.sd C H B σ δ n _ _ R q λv x H1 n1 R1 k1 r1 q1=>?_⟩
 split at q1
 ·rename_i z;cases(show RdX H1 B v (.str z)from r1);refine⟨rfl,he.sd C H1 B σ δ n1 _ _ R1 q1 λu y H2 n2 R2 k2 r2 q2=>?_⟩
  split at q2
  ·rename_i c;cases(show RdX H2 B u (.str c)from r2);exact⟨z,c,rfl,rfl,k _ _ H2 n2 R2 (k1.trans k2) (wd (.bl _)) q2⟩
  ·exact q2.elim
 ·exact q1.elim
def AE:List Wv->Int->DQ->Prop:=λxs n Q=>match xs with
 |[.d (.str z)]=>match intText? z with
  |some m=>z.length<=640/\Q (~~~m) n
  |none=>False
 |_=>False
theorem Rh:dw GN AE:=λC H B σ δ n vs xs Q Q' R r h k=>by
 unfold AE at h
 split at h
 ·rename_i z
  split at h
  ·rename_i m em;cases r with
   |cons r1 r2=>
    cases r2;cases(show RdX H B _ (.str z)from r1);exact⟨z,m,rfl,h.1,em,k _ _ H n R (Kp.refl _ _) (wd (.int m)) h.2⟩
  ·exact h.elim
 ·exact h.elim
def ia(w wl:DT):DT:=λδ n Q=>w δ n λx n1=>cg wl δ n1 λa n2=>match x,a with
 |.d (.str z),ae j=>Q (.d (.str (Txt.slice z (ae j) af))) n2
 |_,_=>False
theorem UW(he:DE X e te we)(hl:DE X a ta wa):DE X (.Subscript e (.Slice (ae a) af af p2) pos) (sF nS te (yf ta) yH) (ia we wa):=by
 refine⟨t8 Ww he.pe (uO hl.pe) yY,λC H B σ δ n Q Q' R q k=>he.sd C H B σ δ n _ _ R q λv x H1 n1 R1 k1 r1 q1=>
  (Ig hl).sd C H1 B σ δ n1 _ _ R1 q1 λa H2 n2 R2 k2 q2=>?_⟩
 split at q2
 ·rename_i z j;cases(show RdX H2 B v (.str z)from r1.kp k2 R1.bt)with
  |str _ hz=>
   exact⟨z,j,rfl,rfl,rfl,hz,k _ _ H2 n2 R2 (k1.trans k2) (wd (.str _ (A4 (Txt.slice_le z _ _) hz))) q2⟩
 ·exact q2.elim
def tO(ks:List Str):gG:=λ_ n Q=>Q (ks.map .str) n
theorem XX{tg:Expr}(hg:Gl X x)(hm:X.mg x=ae (.ref q))(hT:gm P W K q ks)(hK:X.K=K:=by rfl)(hP:X.prog=P:=by rfl)(hW:X.w=W:=by rfl)(hl:ks.length<=1000:=by decide)(hk:∀y∈ks,y.length<=1000:=by decide +kernel)(hd:(x==("__debug__":Str))=ai:=by decide):
  DI X tg (.Name x xp) (Jc ks) (tO ks):=by
 subst hK hP hW;refine⟨T9 hg hm hT hd,λC H B σ δ n Q Q' R q k=>k (rj ks) (ks.map .str) H n R (Kp.refl _ _) (λfz th=>⟨?_,λi H hH hi=>?_,λH hH=>?_,λi H y H' d hH hd hy=>?_⟩) q⟩
 ·rw[Ab];exact jg hl
 ·rw[Ab]at hi;exact hi
 ·show ks.length<=(ks.map A7).length;rw[Ab];exact Ay _
 ·obtain⟨rfl,z,hz,rfl⟩:=hy;refine⟨λ_ _ z=>z,λB' _ _=>?_⟩;rw[Bh,hz]at hd;cases hd;exact .str z (jg (hk z (D4 hz)))
def oz(D:List (Str×Int))(w:DT):DT:=λδ n Q=>w δ n λx n1=>match x with
 |.d (.str k)=>match Bj k D with
  |some s=>Q (~~~s) n1
  |none=>False
 |_=>False
theorem TN(hK:X.K=K:=by rfl):IxR X (wQ K):=by subst hK;exact O9
theorem P2{D:List (Str×Int)}(hi:DE X i ty wy)(hg:Gl X x)(hm:X.mg x=ae (.ref q))(hq:kd K q D)(hs:nz i:=by exact λ_ _=>rfl)(hK:X.K=K:=by rfl)(hd:(x==("__debug__":Str))=ai:=by decide):
  DE X (.Subscript (.Name x xp) i pos) (d3 (wQ K) (tC (.ref q)) ty) (oz D wy):=⟨fR (TN hK) (kO hg hm rfl hd) hi.pe hs,λC H B σ δ n Q Q' R z k=>
 hi.sd C H B σ δ n _ _ R z λv x H1 n1 R1 k1 r1 q1=>by
  split at q1
  ·rename_i key
   split at q1
   ·rename_i s es;cases(show RdX H1 B v (.str key)from r1);exact⟨key,q,D,s,rfl,rfl,hq,es,k _ _ H1 n1 R1 k1 (wd (.int s)) q1⟩
   ·exact q1.elim
  ·exact q1.elim⟩
end
end DL
local macro_rules|`(⇑$n:num)=>match n.getNat with|1000=>`(DL.aq (DL.bD 6 (DL.aR DL.ak)) (DL.aq (DL.bj (DL.dF (DL.w2 (DL.aV (DL.aR (DL.ao ⇑2 (DL.ao ⇑3 (DL.ao ⇑1 (DL.ao ⇑4 (DL.ao ⇑2 (DL.ao ⇑0 (DL.ao ⇑3 (DL.ao ⇑8 DL.ak)))))))))) (DL.az DL.cU (DL.ao ↥0 (DL.ao ⇑8 DL.ak))) DL.a8)) (DL.aF 2) (DL.aq (DL.aT 8 (DL.aV (DL.bB [af,ae 5,ae 1] (DL.dF (DL.wB DL.iF (DL.ao ↥1 DL.ak))) (DL.aF 0) (DL.cT (DL.w2 (DL.aV (DL.bB [af,ae 1] (DL.bN (DL.w2 ↥2 ↥0 DL.a8)) (DL.aF 0) (DL.cT (DL.w2 ↥0 ↥1 (DL.d6 ah))) ↥0)) (DL.aV (DL.aR DL.ak)) DL.cf)) ↥0))) (DL.aq (DL.g9 (DL.az Nb.oi (DL.ao ↥0 (DL.ao (DL.fL 5) (DL.ao ↥8 DL.ak)))) (DL.cR 2 (DL.bP (DL.aF 9) (DL.bP (DL.aF 10) DL.cq)))) (DL.aq (DL.br 6 ↥9) (DL.bj (DL.eY ↥10) (DL.aF 7) (DL.aX (DL.cT (DL.w2 ↥7 (DL.fL 5) (DL.d6 ah))) (DL.br 5 ↥7) DL.aG)))))) (DL.bW 6 (DL.br 3 (DL.aB (DL.ao ↥4 (DL.ao (DL.wB DL.iT (DL.ao ↥6 DL.ak)) DL.ak)))))))|1001=>`(DL.df (DL.cT (DL.jZ ↥0 (DL.dE [("bind","?"),("as","="),("next","+")] ↥1))) (DL.cT (DL.az (Nb.aI (Nb.aO 4)) (DL.ao (DL.ia ↥0 ⇑1) DL.ak))))|1002=>`(DL.cT (DL.w2 (DL.aV (DL.bB [af,ae 1] (DL.bN (DL.w2 ↥2 ↥0 DL.a8)) (DL.aF 0) (DL.cT (DL.w2 ↥0 ↥1 (DL.d6 ah))) ↥0)) (DL.aV (DL.aR DL.ak)) DL.cf))|1003=>`(DL.aw (DL.w2 (DL.aV (DL.aR (DL.ao (DL.wC (.str "a")) (DL.ao (DL.wC (.str "n")) (DL.ao (DL.wC (.str "nm")) (DL.ao (DL.wC (.str "go")) (DL.ao (DL.wC (.str "as")) (DL.ao (DL.wC (.str "bind")) (DL.ao (DL.wC (.str "take")) (DL.ao (DL.wC (.str "read")) (DL.ao ⇑7 (DL.ao (DL.wC .none) (DL.ao (DL.aB (DL.ao (DL.wC (.str "is")) (DL.ao ⇑0 DL.ak))) DL.ak))))))))))))) (DL.az DL.cU (DL.ao ↥0 (DL.ao ⇑11 DL.ak))) DL.aD))|1004=>`(DL.w2 ↥0 (DL.dE [("any","?"),("word","$"),("number","#")] ↥1) DL.bA)|1005=>`(DL.aq (DL.aX (DL.df (DL.cT (DL.w2 (DL.w2 ↥0 ⇑0 DL.a8) (DL.wC (.str "lay")) DL.cf)) (DL.cT (DL.w2 (DL.w2 ↥0 ⇑2 DL.a8) (DL.wC .none) (DL.bz ah)))) (DL.br 1 (DL.w2 (DL.wC (.str "@")) (DL.wB DL.cm (DL.ao (DL.w2 ↥0 ⇑2 DL.a8) DL.ak)) DL.de)) DL.aG) (DL.bW 1 (DL.aw (DL.fY (DL.wC (.str " ")) ↥1))))|1006=>`(DL.dE [("bind","?"),("as","="),("next","+")] ↥1)|1007=>`(DL.aB (DL.ao (DL.wC (.str "is")) (DL.ao (DL.az Nb.kH (DL.ao ↥0 DL.ak)) DL.ak)))|1008=>`(DL.aX (DL.cT (DL.w2 (DL.w2 ↥0 ⇑0 DL.a8) (DL.aB (DL.ao (DL.wC (.str "look")) (DL.ao (DL.wC (.str "same")) (DL.ao (DL.wC (.str "go")) DL.ak)))) (DL.d6 ai))) (DL.br 1 (DL.w2 (DL.wC (.str ">")) (DL.wB DL.cm (DL.ao (DL.w2 ↥0 (DL.cY ⇑1) DL.a8) DL.ak)) DL.de)) DL.aG)|1009=>`(DL.aw (DL.aB (DL.ao (DL.wB DL.iT (DL.ao ↥1 DL.ak)) (DL.ao (DL.az Nb.ud (DL.ao ↥0 (DL.ao (DL.w2 (DL.aV (DL.aR (DL.ao ⇑4 (DL.ao ⇑3 (DL.ao ⇑6 (DL.ao ⇑12 DL.ak)))))) (DL.az DL.cU (DL.ao ↥0 (DL.ao ⇑4 DL.ak))) DL.a8) DL.ak))) DL.ak))))|1010=>`(DL.az DL.cU (DL.ao ↥0 (DL.ao ⇑4 DL.ak)))|1011=>`(DL.aw (DL.fY (DL.wC (.str " ")) ↥1))|1012=>`(DL.aw (DL.aB (DL.ao ↥1 (DL.ao (DL.ia ↥0 ⇑1) DL.ak))))|1013=>`(DL.oz [("note",1),("hand",0),("block",0),("lay",1),("take",1),("read",1),("look",1),("same",2),("go",0)] ↥2)|1014=>`(DL.w2 (DL.w2 ↥0 ↥1 DL.aD) ⇑1 DL.aD)|1015=>`(DL.aV (DL.aR (DL.ao (DL.wC (.str "n")) (DL.ao (DL.wC (.str "nm")) (DL.ao (DL.wC (.str "go")) (DL.ao (DL.wC (.str "m")) DL.ak))))))|1016=>`(DL.cT (DL.w2 ↥0 (DL.wC (.str "note")) DL.bA))|1017=>`(DL.br 1 (DL.fY (DL.wC (.str " ")) (DL.w2 (DL.aV (DL.aR (DL.ao (DL.wC (.str "block")) DL.ak))) (DL.wB DL.pS (DL.ao ↥6 DL.ak)) DL.eA)))|1018=>`(DL.aX (DL.cT (DL.w2 (DL.w2 ↥0 ⇑0 DL.aD) (DL.wC (.str "is")) DL.bA)) (DL.aw (DL.wB DL.cm (DL.ao (DL.w2 ↥0 ⇑1 DL.aD) DL.ak))) DL.aG)|1019=>`(DL.ao (DL.wC (.str "as")) (DL.ao (DL.wC (.str "next")) DL.ak))|1020=>`(DL.aw (DL.w2 (DL.w2 (DL.nr 1) (DL.w2 ↥0 ⇑0 DL.aD) DL.qv) (DL.fY (DL.wC (.str "")) (DL.cu ↥0 (DL.cg ⇑1) DL.cJ)) DL.de))|1021=>`(DL.cR 2 (DL.bP (DL.aF 0) (DL.bP (DL.aF 1) DL.cq)))|1022=>`(DL.w2 (DL.aV (DL.nZ ↥0 (DL.wC (.str " ")))) ⇑0 DL.aD)|1023=>`(DL.w2 (DL.w2 ↥0 ↥1 DL.aD) ⇑0 DL.aD)|_=>`(DL.wC (.int $n))
local macro_rules|`(⇑$s:str)=>`(DL.wC (.str $s))
namespace L2
open PySem PySem.Spec PyProof.Rows
def Lj(K:Ag):R2:=λx y H Q=>∃a b xs,x=.ref a/\y=.ref b/\SqL K H a xs/\SqL K H b []/\Q (.bl (!xs.isEmpty)) H
theorem Na{K:Ag}(hu:X.A.units < cLine)(hK:X.K=K:=by rfl):OpR X (B4 .NotEq) (Lj K):=by
 subst hK;intro pins s σ H x y v u Q I rx ry h;obtain⟨a,b,xs,rfl,rfl,ha,hb,q⟩:=h;cases(show v=B8 a from rx);cases(show u=B8 b from ry);obtain⟨its,r1,p1,_⟩:=I.list ha;obtain⟨its2,r2,p2,_⟩:=I.list hb;have e2:its2=[]:=Vals.zero r2;subst e2;cases r1 with
 |nil=>exact PySem.SeqAt.RcNeAt.lists (e:=λ_=>ah) p1.isList p2.isList rfl hu (λj h1=>absurd h1 (by simp)) X.prog X.w X.xe _ ⟨.bl ai,H,I,(by rfl),q⟩
 |cons r1 r3=>exact PySem.SeqAt.RcNeAt.lists_lengths p1.isList p2.isList (by simp) hu X.prog X.w X.xe _ ⟨.bl ah,H,I,rfl,q⟩
end L2
namespace DL
open PySem L2 Nb
section
variable{X:Cx}{K:Ag}{a:Expr}{ta:TE}{wa:DT}{pos:Pos}
def ly:Wv->Wv->Int->DQ->Prop:=λx y n Q=>match x,y with
 |.d (.list ds),.d (.list [])=>Q (.d (.bool (!ds.isEmpty))) n
 |_,_=>False
theorem O5:bC (Lj K) ly:=λC H B σ δ n x y p q Q Q' R rx ry h1 k=>by
 unfold ly at h1
 split at h1
 ·rename_i ds;cases(show RdX H B x (.list ds)from rx)with
  |@lst ax xs _ e1 e2 e3 e4=>
   cases(show RdX H B y (.list [])from ry)with
   |@lst ay ys _ f1 f2 f3 f4=>
    cases f4;refine⟨ax,ay,xs,rfl,rfl,SqL.of e1,SqL.of f1,k _ _ H n R (Kp.refl _ _) (wd (.bl _)) ?_⟩;cases e4<;>exact h1
 ·exact h1.elim
theorem YC{xp:Pos}(ha:DE X a ta wa)(hg:Gl X x)(hm:X.mg x=ae (.ref q))(hq:∀H,SqT K H q (hs.map V.str))(hl:∀h∈hs,h.length<=1000:=by decide +kernel)(hK:X.K=K:=by rfl)(hd:(x==("__debug__":Str))=ai:=by decide)
  (hmk:Dw .In (Expr.Name x xp)=ai:=by with_unfolding_all rfl):DE X (.Compare a [.In] [.Name x xp] pos) (d3 (kj K ai) ta (tC (.ref q))) (dH hs wa):=
 ⟨JQ (oP hK) ha.pe (kO hg hm rfl hd) hmk,IZ hl hq ha.sd⟩
end
end DL
namespace L2
open PySem PySem.Spec
end L2
namespace L2
open PySem PySem.Spec PyProof.Rows
theorem AO:Cf "list"=ae (.type "list"):=by decide +kernel
end L2
namespace DL
open PySem L2 Nb
section
variable{X:Cx}{e:Expr}{te:TE}{we:DT}{pos p2:Pos}{K:Ag}
def ZS(w:DT):cI:=λδ n Q=>w δ n λx n1=>match x with
 |.d (.list ds)=>Q (!ds.isEmpty) n1
 |_=>False
def wZ(w:DT)(l u:kS):DT:=λδ n Q=>w δ n λx n1=>l δ n1 λa n2=>u δ n2 λb n3=>match x with
 |.d (.list ds)=>Q (.d (.list (bI ds a b))) n3
 |_=>False
theorem Xz(he:DE X e te we)(hl:DOp X lo tl wl)(hh:DOp X hi th wh)(hK:X.K=K:=by rfl):DE X (.Subscript e (.Slice lo hi af p2) pos) (sF (pV K) te tl th) (wZ we wl wh):=by
 subst hK;refine⟨t8 Hz he.pe hl.po hh.po,λC H B σ δ n Q Q' R q k=>he.sd C H B σ δ n _ _ R q λv x H1 n1 R1 k1 r1 q1=>
  hl.sd C H1 B σ δ n1 _ _ R1 q1 λa H2 n2 R2 k2 q2=>hh.sd C H2 B σ δ n2 _ _ R2 q2 λb H3 n3 R3 k3 q3=>?_⟩
 split at q3
 ·rename_i ds;have r3:RdX H3 B v (.list ds):=(r1.kp k2 R1.bt).kp k3 R2.bt;cases r3 with
  |@lst aa xs _ e1 e2 e3 e4=>
   have kk:=(k1.trans k2).trans k3;refine⟨aa,xs,rfl,SqL.of e1,λp hp=>?_⟩;refine k _ _ _ n3 (R3.new hp) (kk.trans (Kp.new hp)) (wd (show RdX _ B _ (.list (bI ds a b))from .lst bL (R3.nb hp) (A4 (sW xs a b) e3) ?_)) q3;unfold bI fi;rw[<-e4.len];exact(((e4.drop _).take _).fresh hp).less λb z=>.inl z
 ·exact q3.elim
end
end DL
namespace L2
open PySem PySem.Spec PyProof.Rows
def qf(K:Ag)(a:Addr):It:=
 ⟨λi H=>∃xs x,SqL K H a xs/\xs[i]?=ae x,
  λi H v H'=>∃T x,v=.ref T/\H T=af/\H'=upd H T (.tup [.int i,x])/\∀xs,SqL K H a xs->xs[i]?=ae x,
  λi H=>∃xs,SqL K H a xs/\xs.length=i⟩
theorem Zm{K:Ag}(h1:e≠it)(h2:a≠it)(h3:e≠a):Turn P w K (.Tuple elts kk pos) (qf K a) [e,it] e
  (λi h=>(∃old,IsEnum h e it i old)/\h.IsListIter it a i) where
 mem:=by simp
 obj:=λi h st c hc=>by
  obtain⟨⟨x,he⟩,⟨o1,e1,c1,d1⟩⟩:=st;simp only[Aq,Av,or_false]at hc;rcases hc with rfl|rfl
  ·exact⟨_,he,λv q=>by have q':Data.fields _=Data.cell v:=q;cases q'⟩
  ·exact⟨o1,e1,λv q=>by rw[d1]at q;cases q⟩
 keep:=λi h h' st k=>⟨st.1.imp λ_ q=>k e (by simp) _ q,st.2.at λo q=>k it (by simp) o q⟩
 item:=by
  intro X hP hw hK hc i pins s σ H E I hf st hg;subst hP hw hK;obtain⟨⟨old,he⟩,hi⟩:=st;obtain⟨xs,x,qa,ex⟩:=hg;obtain⟨its,rv,p,_⟩:=I.list qa;obtain⟨u,hu,ru⟩:=rv.get ex;have hlt:i < its.toArray.size:=by simpa using(Bu.mp hu).1
  have hef:e∉[it,a]:=λz=>by
   simp only[Aq,Av,or_false]at z;exact z.elim h1 h3
  refine wpAny_pyNext_enum_itemD (Draws.list (A:=X.A.in1) (I.ok.hd hc) it a h2 its.toArray) he ⟨hi,p.isList⟩ hlt h1 hef λy h' tk a1 a2 a3 a4 a5 a6=>⟨_,rfl,?_⟩;obtain rfl:u=y:=by
   rw[List.getElem?_toArray,hu]at a1;cases a1;rfl
  refine wpAny_letOwnedTupleGo_enum (s:={ s with heap:=h',toks:=tk+1}) a2 λh'' b1 b2=>?_;have T:h''.get? s.heap.objs.size=ae {cls:=.type "tuple",data:=.seq #[.int i tk,u]}:=b2.extBut _ _ (Ef (A0 he)) a4;have Tn:H s.heap.objs.size=af:=I.hok.fresh (Ay _);have kp:∀c o,c∉[e,it]->s.heap.get? c=ae o->h''.get? c=ae o:=λc o hc e=>by
   simp only[Aq,Av,or_false,not_or]at hc;exact b2.extBut _ _ hc.1 (a6 c o hc.1 hc.2 e)
  refine⟨.ref s.heap.objs.size,upd H s.heap.objs.size (.tup [.int i,x]),I.many (t':=tk+1) hf kp (Ay _) ⟨by show 2<=A6;decide,[.int i tk,u],.cons ⟨tk,rfl⟩ (.cons ru .nil),_,T,rfl,⟨_,rfl⟩,rfl⟩,rfl,⟨_,x,rfl,Tn,rfl,λzs q=>by rw[I.list_inj q qa];exact ex⟩,
   ⟨⟨u,by rw[show((i+1:Nat):Int)=(i:Int)+1 from rfl];exact b1⟩,a3.1.extBut b2.extBut h1.symm⟩,λc hc=>?_⟩
  have hlt:c < s.heap.objs.size:=by
   simp only[Aq,Av,or_false]at hc;rcases hc with rfl|rfl
   ·exact A0 he
   ·obtain⟨_,e,_⟩:=hi;exact A0 e
  rw[bc (Bq hlt)];exact(hf c hc).1
 done:=by
  intro X hP hw hK hc i pins s σ H E I hf st hg;subst hP hw hK;obtain⟨⟨old,he⟩,hi⟩:=st;obtain⟨xs,hq,hx⟩:=hg;obtain⟨its,rv,p,_⟩:=I.list hq;have hl:=rv.length;have hs:its.toArray.size=i:=by simp;omega
  refine wpAny_pyNext_enum_endD (Draws.list (A:=X.A.in1) (I.ok.hd hc) it a h2 its.toArray) he (by rw[hs];exact⟨hi,p.isList⟩) λh' k=>⟨rfl,I.many0 (t':=s.toks) hf λc o hc e=>?_⟩;simp only[Aq,Av,or_false,not_or]at hc;exact k c o hc.2 e
 self:=λ_ _ _ _ _ st h=>Gq st.1.choose_spec h
def sT(K:Ag)(ta:TA):TI:=λσ H R=>ta σ H λvs H1=>∃a,vs=[.ref a]/\((∃xs,SqT K H1 a xs)/\R (xR K a) H1\/(∃xs,SqL K H1 a xs)/\R (qf K a) H1)
theorem Ss(hg:Gl X "enumerate")(hm:X.mg "enumerate"=af)(ha:PA X [e1] ta)(hs:A8 [e1] X.env=[(ai,eval e1 X.env)]:=by rfl):
  PI X (.Tuple elts kk tpos) (.Call (.Name "enumerate" p) [e1] [] pos) (sT X.K ta):=by
 intro pins s σ H R I h;refine Call_ (lR I hg hm boot_enumerate (D3 (bh (ha pos pins s σ H _ I h) λus s1 ⟨vs,H1,I1,r1,q1⟩=>?_) (by rw[hs];rfl) rfl));obtain⟨a,e,q⟩:=q1;subst e;cases r1 with
 |cons r rr=>
  cases rr;cases r;have fp:∀c∈[s1.heap.objs.size+1,s1.heap.objs.size],s1.heap.objs.size<=c:=λc hc=>by
   simp only[Aq,Av,or_false]at hc;rcases hc with rfl|rfl<;>omega
  rcases q with⟨⟨xs,qa⟩,q⟩|⟨⟨xs,qa⟩,q⟩
  ·obtain⟨its,rv,pp,_⟩:=I1.tuple qa;have la:a < s1.heap.objs.size:=by obtain⟨_,e,_⟩:=id pp;exact A0 e
   refine Ln (show s1.heap.IsTuple a its.toArray from pp) λh' a1 a2 a3=>Gq (s:={ s1 with heap:=h'}) a1 ?_;exact⟨_,_,_,_,H1,rfl,I1.kept (t':=s1.toks) a3,EF (Nat.succ_ne_self _) (Bq la) (Ef (Dq la)),⟨⟨_,a1⟩,a2⟩,λc hc=>I1.fpOk (fp c hc) (I1.hok.fresh (fp c hc)),q⟩
  ·obtain⟨its,rv,pp,_⟩:=I1.list qa;have la:a < s1.heap.objs.size:=by obtain⟨_,e,_⟩:=pp.isList;exact A0 e
   refine call_enumerate_list pp.isList λh' a1 a2 _ a3=>Gq (s:={ s1 with heap:=h'}) a1 ?_;exact⟨_,_,_,_,H1,rfl,I1.kept (t':=s1.toks) a3,Zm (Nat.succ_ne_self _) (Bq la) (Ef (Dq la)),⟨⟨_,a1⟩,a2⟩,λc hc=>I1.fpOk (fp c hc) (I1.hok.fresh (fp c hc)),q⟩
end L2
namespace DL
open PySem L2 Nb
section
variable{X:Cx}{a:Expr}{ta:TE}{wa:DT}{pos p:Pos}{K:Ag}
def MC(w:DT):gG:=λδ n Q=>w δ n λx n1=>∃xs,(x=.d (.tuple xs)\/x=.d (.list xs))/\Q (iu 0 xs) n1
theorem WH{elts:List Expr}{kk:Nat}{tpos:Pos}(hg:Gl X "enumerate")(hm:X.mg "enumerate"=af)(ha:DE X a ta wa)(hK:X.K=K:=by rfl)(hs:A8 [a] X.env=[(ai,eval a X.env)]:=by rfl)(he1:A8 [a] X.env=(ai,eval a X.env)::A8 [] X.env:=by rfl):
  DI X (.Tuple elts kk tpos) (.Call (.Name "enumerate" p) [a] [] pos) (sT K (cK ta bF)) (MC wa):=by
 subst hK;refine⟨Ss hg hm (cH ha.pe dS he1) hs,λC H B σ δ n Q Q' R q k=>ha.sd C H B σ δ n _ _ R q λv x H1 n1 R1 k1 r1 q1=>?_⟩;obtain⟨xs,rfl|rfl,q2⟩:=q1
 ·cases(show RdX H1 B v (.tuple xs)from r1)with
  |@tup aa vs _ e1 e2 e3 e4=>
   refine⟨aa,rfl,.inl ⟨⟨vs,SqT.of e1⟩,k _ (iu 0 xs) H1 n1 R1 k1 (λfz th=>?_) q2⟩⟩;have za:fz aa=ae (.tup vs):=th.2 _ _ e1 e2;refine⟨by rw[j7,<-e4.len];exact e3,λi H hH hi=>?_,λH hH=>?_,λi H x H' d hH hd hy=>?_⟩
   ·rw[j7]at hi;have h1:i < vs.length:=by rw[e4.len];exact hi
    exact⟨vs,vs[i],SqT.of (hH _ _ za),Ar h1⟩
   ·exact⟨vs,SqT.of (hH _ _ za),by rw[j7,e4.len]⟩
   ·obtain⟨T,x1,rfl,hT,rfl,hx⟩:=hy;refine⟨λb o e=>by rw[bc (b5 e hT)];exact e,λB' hB hBa=>?_⟩;obtain⟨y,hy,rfl⟩:=yb hd;obtain⟨u1,hu1,ru1⟩:=e4.getD hy;have t1:=hx _ (SqT.of (hH _ _ za));rw[hu1]at t1;cases t1;have mv:∀b o,H1 b=ae o->¬B b->upd H T (.tup [.int i,x1]) b=ae o/\¬B' b:=λb o e ne=>by
     have:=hH _ _ (th.2 _ _ e ne);exact⟨by rw[bc (b5 this hT)];exact this,hB _ _ (th.2 _ _ e ne)⟩
    rw[Int.zero_add];exact .tup bL (λz=>hBa T z hT) (by show 2<=A6;decide) (.cons (.int _) (.cons (ru1.move mv) .nil))
 ·cases(show RdX H1 B v (.list xs)from r1)with
  |@lst aa vs _ e1 e2 e3 e4=>
   refine⟨aa,rfl,.inr ⟨⟨vs,SqL.of e1⟩,k _ (iu 0 xs) H1 n1 R1 k1 (λfz th=>?_) q2⟩⟩;have za:fz aa=ae (.lst vs):=th.2 _ _ e1 e2;refine⟨by rw[j7,<-e4.len];exact e3,λi H hH hi=>?_,λH hH=>?_,λi H x H' d hH hd hy=>?_⟩
   ·rw[j7]at hi;have h1:i < vs.length:=by rw[e4.len];exact hi
    exact⟨vs,vs[i],SqL.of (hH _ _ za),Ar h1⟩
   ·exact⟨vs,SqL.of (hH _ _ za),by rw[j7,e4.len]⟩
   ·obtain⟨T,x1,rfl,hT,rfl,hx⟩:=hy;refine⟨λb o e=>by rw[bc (b5 e hT)];exact e,λB' hB hBa=>?_⟩;obtain⟨y,hy,rfl⟩:=yb hd;obtain⟨u1,hu1,ru1⟩:=e4.getD hy;have t1:=hx _ (SqL.of (hH _ _ za));rw[hu1]at t1;cases t1;have mv:∀b o,H1 b=ae o->¬B b->upd H T (.tup [.int i,x1]) b=ae o/\¬B' b:=λb o e ne=>by
     have:=hH _ _ (th.2 _ _ e ne);exact⟨by rw[bc (b5 this hT)];exact this,hB _ _ (th.2 _ _ e ne)⟩
    rw[Int.zero_add];exact .tup bL (λz=>hBa T z hT) (by show 2<=A6;decide) (.cons (.int _) (.cons (ru1.move mv) .nil))
end
end DL
namespace L2
open PySem PySem.Spec
end L2
namespace DL
open PySem L2 Nb
section
variable{X:Cx}{pos:Pos}
def rW(i:Nat)(w:DT):aL:=λδ n K=>∃a:Int,δ[i]?=ae (↑(.int a))/\w δ n λy n1=>∃b:Int,y=.d (.int b)/\K.nx (δ.set i (↑(.int (a+b)))) n1
theorem Xb(hN:X.N.Nodup)(hi:X.N[i]?=ae x)(hx:jz X.env.scope x)(he:DE X e te we)(hf:X.fn x=ah\/X.env.scope.names.lookup x=ae .local:=by first|exact .inl rfl|exact .inr rfl|assumption):
  DS X (.AugAssign (.Name x xp) .Add e pos) (qh i te (DD λi j=>i+j)) (rW i we):=⟨WW hN hi hx he.pe Sk hf,λC H B σ δ n K D R q E=>by
 obtain⟨a,ei,q⟩:=q;obtain⟨v,hv,r,_⟩:=R.sl i _ ei;cases(show RdX H B v (.int a)from r);refine⟨_,hv,he.sd C H B σ δ n _ _ R q λu y H1 n1 R1 k1 r1 q1=>?_⟩;obtain⟨b,rfl,kq⟩:=q1;cases(show RdX H1 B u (.int b)from r1);exact⟨a,b,rfl,rfl,E.nx _ _ _ _ _ (R1.set (x:=.d (.int (a+b))) (.int _) rfl) kq⟩⟩
end
section
variable{X:Cx}{K:Ag}
structure SmlA(d:Aa):Prop where
 lay:Gh d=ah
 dep:Gg d<=20
 shw:Gv d=ah
 len:d.shown.length<=A6
def JR(K:Ag):List V->Hp->VK->Prop:=λxs H Q=>∃x d,xs=[x]/\RdD K H x d/\SmlA d/\Q (.str d.shown) H
theorem Qh(hg:X.A.guards=ae [])(hu:X.A.units+64 < cLine)(hK:X.K=K:=by rfl):CallR X (.builtin "repr") (JR K):=by
 subst hK;intro pins s σ H xs us Q I r h;obtain⟨x,d,rfl,hd,hs,q⟩:=h;obtain⟨u,rfl,ru⟩:=i5 r;have hsh:=hs.shw;have hln:=hs.len;cases hd with
 |non=>
  cases(show u=B1 from ru);exact P.repr_of_none ⟨.str _,H,I.tok _,⟨_,rfl⟩,q⟩
 |bl b=>
  cases(show u=Value.bool b from ru);exact P.repr_of_bool ⟨.str _,H,I.tok _,⟨_,rfl⟩,by cases b<;>exact q⟩
 |int i=>
  obtain⟨t,rfl⟩:=(show ∃t,u=Value.int i t from ru);exact P.repr_of_int (of_decide_eq_true hsh) ⟨.str _,H,I.tok _,⟨_,rfl⟩,q⟩
 |str y=>
  obtain⟨t,rfl⟩:=(show ∃t,u=D7 y t from ru);exact P.repr_of_str ⟨.str _,H,I.tok _,⟨_,rfl⟩,q⟩ hln
 |@lst a _ _ h1 h2=>
  cases(show u=B8 a from ru);obtain⟨as,hr⟩:=RdD.reads I (RdD.lst h1 h2) (show RelV (.ref a) (B8 a)from rfl);have hdp:=hs.dep;refine repr_of_reads' hr hsh (PyData.noDict_hsm (PyData.hasDict_of_canLay _ hs.lay)) hg ⋯ (λ_ _ e=>e) (λh' u tk hk=>?_) hln;exact⟨.str _,H,I.kept hk,⟨u,rfl⟩,q⟩
 |@tup a _ _ h1 h2=>
  cases(show u=B8 a from ru);obtain⟨as,hr⟩:=RdD.reads I (RdD.tup h1 h2) (show RelV (.ref a) (B8 a)from rfl);have hdp:=hs.dep;refine repr_of_reads' hr hsh (PyData.noDict_hsm (PyData.hasDict_of_canLay _ hs.lay)) hg ⋯ (λ_ _ e=>e) (λh' u tk hk=>?_) hln;exact⟨.str _,H,I.kept hk,⟨u,rfl⟩,q⟩
def gU:List Wv->Int->DQ->Prop:=λxs n Q=>match xs with
 |[.d d]=>SmlA d/\Q (.d (.str d.shown)) n
 |_=>False
theorem WG:dw (JR K) gU:=λC H B σ δ n vs xs Q Q' R r h k=>by
 unfold gU at h
 split at h
 ·rename_i d;cases r with
  |cons r1 r2=>
   cases r2;have r1:RdX H B _ d:=r1;exact⟨_,d,rfl,r1.rd,h.1,k _ _ H n R (Kp.refl _ _) (wd (show RdX H B _ (.str _)from .str _ h.1.len)) h.2⟩
 ·exact h.elim
end
def og(w:DT):aL:=λδ n K=>w δ n λ_ n1=>K.nx δ n1
theorem z0(h:DE X e te we)(hs:Fw e af pos.line X.env=pure ai:=by rfl):DS X (.Expr e pos) (ng te) (og we):=⟨ka h.pe hs,λC H B σ δ n K D R q E=>h.sd C H B σ δ n _ _ R q λv x H1 n1 R1 k1 r1 q1=>E.nx H1 B σ δ n1 R1 q1⟩
end DL
namespace Nb
open PySem L2 DL
def bH(c:Nat):Bool:=!decide ([c] < ("0":Str).cps.toList)&&!decide (("9":Str).cps.toList < [c])
def gQ(x:Str):Bool:=!x.cps.toList.isEmpty&&x.cps.toList.all bH
def gW:List Nat->Option Nat
 |[c]=>if bH c=ah then ae (c-48)else af
 |[c,d]=>if (bH c&&bH d&&decide (c≠48))=ah then ae (10*(c-48)+(d-48))else af
 |_=>af
def gq:Option Nat->Aa
 |some k=>.int (k:Nat)
 |none=>.none
def fk(x:Str):Aa:=gq (gW x.cps.toList)
def cx(x:Str):Aa:=if aO 8 (.str x)=ah then .str x else fk x
def eE(x:Str):Str:=⟨(x.cps.toList.drop 1).toArray⟩
def fO(c:Nat)(x:Str):Bool:=match x.cps.toList with
 |a::_=>decide (a=c)
 |[]=>ai
def uQ(d:Aa):Aa:=if dU d=ah then .none else .tuple [.str "is",d]
def d9(x:Str):Aa:=
 if x="?" then .tuple [.str "any"]else if x="$" then .tuple [.str "word"]else if x="#" then .tuple [.str "number"]else
 if (fO 63 x&&aO 4 (.str (eE x)))=ah then .tuple [.str "bind",.str (eE x)]else
 if (fO 61 x&&aO 4 (.str (eE x)))=ah then .tuple [.str "as",.str (eE x)]else
 if (fO 43 x&&aO 4 (.str (eE x)))=ah then .tuple [.str "next",.str (eE x)]else
 uQ (cx x)
def hU(x:Str):Aa:=if fO 64 x=ah then(if cj (fk (eE x))=ah then fk (eE x)else .none)else .none
def m8(x:Str):Aa:=if fO 62 x=ah then fk (eE x)else .none
def si:bx:=λws n Q=>∃x:Str,ws=[.d (.str x)]/\Q (.d (.bool (gQ x))) n
def ph:bx:=λws n Q=>∃x:Str,ws=[.d (.str x)]/\Q (.d (fk x)) n
def sI:bx:=λws n Q=>∃x:Str,ws=[.d (.str x)]/\Q (.d (cx x)) n
def wH:bx:=λws n Q=>∃x:Str,ws=[.d (.str x)]/\Q (.d (d9 x)) n
def AV:bx:=λws n Q=>∃x:Str,ws=[.d (.str x)]/\Q (.d (hU x)) n
def yK:bx:=λws n Q=>∃x:Str,ws=[.d (.str x)]/\Q (.d (m8 x)) n
inductive Hw where
 |note|hand|block|lay|take|read|look|same|go
def Hw.s:Hw->Str
 |.note=>"note"
 |.hand=>"hand"
 |.block=>"block"
 |.lay=>"lay"
 |.take=>"take"
 |.read=>"read"
 |.look=>"look"
 |.same=>"same"
 |.go=>"go"
def Hw.least:Hw->Nat
 |.note=>1
 |.hand=>0
 |.block=>0
 |.lay=>1
 |.take=>1
 |.read=>1
 |.look=>1
 |.same=>2
 |.go=>0
def Hw.aged:Hw->Bool
 |.note=>ah
 |.lay=>ah
 |_=>ai
def Hw.leads:Hw->Bool
 |.look=>ah
 |.same=>ah
 |.go=>ah
 |_=>ai
def fg:Hw->Str->Aa
 |.block,w=>.str w
 |.note,w=>cx w
 |_,w=>d9 w
def eF:Hw->List Aa->Bool
 |.note,ps=>eB (.tuple ps)
 |.block,ps=>fF (.tuple ps)
 |.lay,ps=>ek (.tuple ps)
 |.take,ps=>bY (.tuple ps)
 |.read,ps=>bY (.tuple ps)
 |.look,ps=>bY (.tuple ps)
 |.same,ps=>decide ((ps.length:Int)<=2)&&ps.all cv
 |_,_=>ai
def dB(h:Hw):List Aa->List Str->List Aa
 |acc,[]=>acc
 |acc,w::r=>if eF h (acc++[fg h w])=ah then dB h (acc++[fg h w]) r else acc
def i7(h:Hw)(r:List Str)(m:Nat):Aa:=
 if m < h.least\/m=r.length then .none else match r[m]? with
 |some w=>if h.aged=ah then hU w else if h.leads=ah then m8 w else .none
 |none=>.none
def zy:Hw->List Aa->Aa->Aa
 |.hand,ps,_=>.tuple ps
 |.block,ps,_=>.tuple ps
 |.note,ps,t=>.tuple [.tuple ps,t]
 |.lay,ps,t=>.tuple [.str "lay",.tuple ps,t]
 |.look,ps,t=>.tuple [.str "look",.tuple ps,t]
 |.take,ps,_=>.tuple [.str "take",.tuple ps]
 |.read,ps,_=>.tuple [.str "read",.tuple ps]
 |.same,ps,t=>.tuple (.str "same"::(ps++[t]))
 |.go,ps,t=>.tuple (.str "go"::(ps++[t]))
def iw(h:Hw)(r:List Str):Nat ⊕ Aa:=
 let ps:=dB h [] r
 let t:=i7 h r ps.length
 let many:=1+ps.length+(if dU t=ah then 0 else 1)
 if (decide (ps.length < h.least) || (h.leads&&dU t))=ah\/many < r.length+1 then .inl many else .inr (zy h ps t)
abbrev fU(h:Hw)(r:List Str):Aa:=.list ((h.s::r).map .str)
def AG:bx:=λws n Q=>∃(h:Hw)(w:Str),ws=[.d (.str h.s),.d (.str w)]/\Q (.d (fg h w)) n
def tG:bx:=λws n Q=>∃(h:Hw)(ps:List Aa),ws=[.d (.str h.s),.d (.tuple ps)]/\Q (.d (.bool (eF h ps))) n
def xY:bx:=λws n Q=>∃(h:Hw)(r:List Str),ws=[.d (fU h r)]/\r.length<=900/\Q ‹(dB h [] r)› n
def vj:bx:=λws n Q=>∃(h:Hw)(r:List Str)(m:Nat),ws=[.d (fU h r),.d (.int (m:Nat))]/\m<=r.length/\Q (.d (i7 h r m)) n
def vD:bx:=λws n Q=>∃(h:Hw)(ps:List Aa)(t:Aa),ws=[.d (.str h.s),.d (.tuple ps),.d t]/\ps.length<=900/\Q (.d (zy h ps t)) n
def sG:bx:=λws n Q=>∃(i:Int)(h:Hw)(r:List Str)(d:Aa),ws=[.d (.int i),.d (fU h r)]/\r.length<=900/\iw h r=.inr d/\Q (.d d) n
abbrev Bk:=Aa×List Aa
abbrev Hs:=List (List Bk)
def jI(b:Bk):Aa:=.tuple [b.1,.list b.2]
def cD(bs:List Bk):Aa:=.list (bs.map jI)
def jv(hs:Hs):Aa:=.list (hs.map cD)
def hZ(hs:Hs):Bool:=match hs.getLast? with
 |some []=>ah
 |_=>ai
abbrev Za:List Str:=["lay","take","read","look","same","go"]
def bV(h:Str)(ns:List Aa)(hs:Hs):Bool:=
 if h="note" then hs.isEmpty&&decide (ns.length < 12)else
 if h="hand" then !hZ hs&&decide (hs.length < 5)else
 if h="block" then(match hs.getLast? with|some bs=>decide (bs.length < 6)|none=>ai)else
 if bG (.str h) ((Za:List Str).map .str)=ah then(match hs.getLast? with|some bs=>(match bs.getLast? with|some b=>decide (b.2.length < 8)|none=>ai)|none=>ai)else ai
def eX(b:Bk):Aa:=.tuple [b.1,.tuple b.2]
def mW:bx:=λws n Q=>∃hs:Hs,ws=[.d (jv hs)]/\Q (.d (.bool (hZ hs))) n
def tJ:bx:=λws n Q=>∃(h:Str)(ns:List Aa)(hs:Hs),ws=[.d (.str h),.d (.list ns),.d (jv hs)]/\Q (.d (.bool (bV h ns hs))) n
def rS:bx:=λws n Q=>∃bs:List Bk,ws=[.d (cD bs)]/\bs.length<=100/\Q ‹(bs.map eX)› n
def iA(P:List Bl)(ks:List Str)(a:Ac):Option Nat:=match bZ ks [] a.fs with
 |some k=>ae (1+k)
 |none=>if jG P ks a.to=ah then af else ae (1+a.fs.length)
def mU:bx:=λws n Q=>∃(P:List Bl)(i p:Nat)(b:Bl)(a:Ac),ws=[.d (bE P),.d (.int i),.d (.int p)]/\P[i]?=ae b/\eS b/\b.2[p]?=ae a/\Q (.d (gq (iA P (kn b.1 b.2 p) a))) n
def nJ(P:List Bl)(w:List Str)(as:List Ac):Nat->List Ac->Option (Nat×Nat)
 |_,[]=>af
 |p,a::r=>match iA P (kn w as p) a with
  |some k=>ae (p,k)
  |none=>nJ P w as (p+1) r
def mC(P:List Bl)(i:Nat)(b:Bl):Option (Nat×Nat):=if i=0/\b.1≠[]then ae (0,1)else(nJ P b.1 b.2 0 b.2).map λq=>(1+q.1,q.2)
def nk(P:List Bl):Nat->Nat->List Bl->Sum Nat (Nat×Nat)
 |L,_,[]=>.inl L
 |L,i,b::r=>match mC P i b with
  |some (k,w)=>.inr (L+k,w)
  |none=>nk P (L+(1+b.2.length)) (i+1) r
def jE:Nat->List (List Bl)->Option (Nat×Nat)
 |_,[]=>af
 |L,P::r=>match nk P (L+1) 0 P with
  |.inl L'=>jE L' r
  |.inr q=>ae q
def BP:bx:=λws n Q=>∃(P:List Bl)(i:Nat)(b:Bl)(L:Nat),ws=[.d (bE P),.d (.int (i:Nat)),.d (.int (L:Nat))]/\P[i]?=ae b/\eS b/\mC P i b=af/\Q (.d .none) n
def mi:bx:=λws n Q=>∃(Ps:List (List Bl))(ns:List Aa),ws=[.d (.tuple [.tuple (Ps.map bE),.tuple ns])]/\(∀P∈Ps,P.length<=100/\∀b∈P,eS b)/\jE ns.length Ps=af/\Q (.d .none) n
def km(s:Str):Option Hw:=[Hw.note,.hand,.block,.lay,.take,.read,.look,.same,.go].find? λh=>decide (h.s=s)
def fv(h:Hw)(d:Aa)(ns:List Aa)(hs:Hs):List Aa×Hs:=match h with
 |.note=>(ns++[d],hs)
 |.hand=>(ns,hs++[[]])
 |.block=>(ns,hs.dropLast++[(hs.getLast?.getD [])++[(d,[])]])
 |_=>(ns,hs.dropLast++[(hs.getLast?.getD []).dropLast++[(((hs.getLast?.getD []).getLast?.getD (.none,[])).1,((hs.getLast?.getD []).getLast?.getD (.none,[])).2++[d])]])
def yN(ws:List Str)(ns:List Aa)(hs:Hs):Nat ⊕ (List Aa×Hs):=match ws with
 |[]=>.inl 0
 |h::r=>if bV h ns hs=ah then(match km h with
  |some hw=>(match iw hw r with
   |.inl m=>.inl m
   |.inr d=>.inr (fv hw d ns hs))
  |none=>.inl 0)else .inl 0
def gH:Nat->List (List Str)->List Aa->Hs->(Nat×Nat) ⊕ (List Aa×Hs)
 |_,[],ns,hs=>.inr (ns,hs)
 |i,ws::r,ns,hs=>match yN ws ns hs with
  |.inl m=>.inl (i,m)
  |.inr p=>gH (i+1) r p.1 p.2
def fI:Str:=" "
structure RdOk(ls:List Str)(ns:List Aa)(hs:Hs)(Ps:List (List Bl)):Prop where
 ln:ls.length<=300
 sh:∀x∈ls,x.length<=500
 lp:gH 0 (ls.map λx=>D1 x fI) [] []=.inr (ns,hs)
 lk:hZ hs=ai
 pl:hs.map (λbs=>Fx (bs.map eX))=Ps.map bE
 wf:∀P∈Ps,P.length<=100/\∀b∈P,eS b
 rw':jE ns.length Ps=af
def kg:bx:=λws n Q=>∃(w:Wv)(ls:List Str)(ns:List Aa)(hs:Hs)(Ps:List (List Bl)),ws=[w]/\fm w=ae (ls.map .str)/\RdOk ls ns hs Ps/\Q ‹[.tuple (Ps.map bE),.tuple ns]› n
abbrev sK(k:Nat):Str:=C4 (k:Int)
def b6:Aa->Str
 |.str x=>x
 |.int i=>C4 i
 |_=>""
def Fe.wd:Fe->Str
 |.any=>"?"
 |.word=>"$"
 |.num=>"#"
 |.isv d=>b6 d
 |.bind k=>("?":Str)++k
 |.as k=>("=":Str)++k
 |.nx k=>("+":Str)++k
def di:Aa->List Str
 |.int i=>[("@":Str)++Bt (C4 i)]
 |_=>[]
def cw(b:Nat):Str:=(">":Str)++sK b
def Ac.hw:Ac->Hw
 |.lay _ _=>.lay
 |.take _=>.take
 |.read _=>.read
 |.look _ _=>.look
 |.same _ _ _=>.same
 |.go _=>.go
def Ac.ws:Ac->List Str
 |.lay fs age=>fs.map Fe.wd++di age
 |.take fs=>fs.map Fe.wd
 |.read fs=>fs.map Fe.wd
 |.look fs b=>fs.map Fe.wd++[cw b]
 |.same f g b=>[f.wd,g.wd,cw b]
 |.go b=>[cw b]
def ij(a:Ac):List Str:=a.hw.s::a.ws
def gF(b:Bl):List (List Str):=(Hw.block.s::b.1)::b.2.map ij
def fD(P:List Bl):List (List Str):=[Hw.hand.s]::P.flatMap gF
def ff(q:List Aa×Aa):List Str:=Hw.note.s::(q.1.map b6++di q.2)
def hG(q:List Aa×Aa):Prop:=1<=q.1.length/\q.1.length<=4/\(∀d∈q.1,ck d=ah)/\iO q.2
def bM(q:List Aa×Aa):Aa:=.tuple [.tuple q.1,q.2]
def toS(a:Ac):Prop:=∀b,a.to=ae b->b < 100
def bO(b:Bl):Prop:=fF (cW b.1)=ah/\b.2.length<=8/\∀a∈b.2,gC a/\∀c,a.to=ae c->c < 100
def pO(P:List Bl):Prop:=1<=P.length/\P.length<=6/\∀b∈P,bO b
def bK(qs:List (List Aa×Aa))(Ps:List (List Bl)):List (List Str):=qs.map ff++Ps.flatMap fD
def dQ(ws:List Str):Str:=D6 fI ws
def dv(Ps:List (List Bl))(qs:List (List Aa×Aa)):Aa:=.tuple [.tuple (Ps.map bE),.tuple (qs.map bM)]
structure PlO(Ps:List (List Bl))(qs:List (List Aa×Aa)):Prop where
 pl:Ps.length<=5
 po:∀P∈Ps,pO P/\iR P=ah/\∀b∈P,eS b
 ql:qs.length<=12
 qo:∀q∈qs,hG q
def uv:bx:=λws n Q=>∃f:Fe,ws=[.d f.d]/\f.ok/\Q (.d (.str f.wd)) n
def xA:bx:=uv
def zq:bx:=λws n Q=>∃i:Int,ws=[.d (.int i)]/\1<=i/\i<=20/\Q (.d (.str (("@":Str)++Bt (C4 i)))) n
def sU:bx:=λws n Q=>∃b:Nat,ws=[.d (.int b)]/\b < 100/\Q (.d (.str (cw b))) n
def pj:bx:=λws n Q=>∃d:Aa,ws=[.d d]/\iO d/\Q (.d (.list ((di d).map .str))) n
def zo:bx:=λws n Q=>∃q:List Aa×Aa,ws=[.d (bM q)]/\hG q/\Q (.d (.str (dQ (ff q)))) n
def sE:bx:=λws n Q=>∃a:Ac,ws=[.d a.d]/\gC a/\toS a/\Q (.d (.str (dQ (ij a)))) n
def rL:bx:=sE
def xu(P:List Bl):Prop:=pO P/\∀b∈P,eS b
def zj:bx:=λws n Q=>∃P:List Bl,ws=[.d (bE P)]/\xu P/\Q (.d (.list (((fD P).map dQ).map .str))) n
def iZ:eJ:=λws n Q=>∃(Ps:List (List Bl))(qs:List (List Aa×Aa)),ws=[.d (dv Ps qs)]/\PlO Ps qs/\Q (((bK qs Ps).map dQ).map .str) n
def wO:bx:=λws n Q=>∃(Ps:List (List Bl))(qs:List (List Aa×Aa)),ws=[.d (dv Ps qs)]/\PlO Ps qs/\Q (.d (.list (((bK qs Ps).map dQ).map .str))) n
def yk:bx:=λws n Q=>∃(Ps:List (List Bl))(qs:List (List Aa×Aa)),ws=[.d (dv Ps qs)]/\PlO Ps qs/\bK qs Ps≠[]/\Q (.d (.bool ah)) n
def lN:bx:=λws n Q=>∃(Ps:List (List Bl))(qs:List (List Aa×Aa)),ws=[.d (dv Ps qs)]/\PlO Ps qs/\Q (.d (.bool ah)) n
abbrev v9:aL:=(aw (aM (bq "int" ↥0) (cy (bq "bool" ↥0))))
abbrev vG:aL:=(aq (aX (bw (cT (bq "str" ↥0))) (aw (wC (.bool ai))) aG) (aw (aM (cV dA dA ⇑1 (wB aP (ao ↥0 ak)) ↥1) (wB bu (ao (aV (bB [af] (fc ↥0) (aF 0) aQ (cV dA dA ⇑"a" ↥0 ⇑"z"))) ak)))))
abbrev RO:aL:=(aw (az lT (ao ↥0 (ao ⇑8 ak))))
abbrev uE:aL:=(aw (aM (az (aI jk) (ao ↥0 ak)) (cV dA dA ⇑0 ↥0 ⇑99)))
abbrev uD:aL:=(aw (ec (az (aI (aO 8)) (ao ↥0 ak)) (az (aI jh) (ao ↥0 ak))))
abbrev U7:aL:=(aw (az lT (ao ↥0 (ao ⇑4 ak))))
abbrev xM:aL:=(aq (aX (bw (cT (bq "tuple" ↥0))) (aw (wC (.bool ai))) aG) (aw (aM (cV dA dA ⇑1 (wB aP (ao ↥0 ak)) ⇑4) (wB bu (ao (aV (bB [af] (bN ↥0) (aF 0) aQ (az (aI ck) (ao ↥0 ak)))) ak)))))
abbrev wJ:aL:=(aw (ec (w2 ↥0 (wC .none) (bz ai)) (aM (az (aI jk) (ao ↥0 ak)) (cV dA dA ⇑1 ↥0 ⇑20))))
abbrev yi:aL:=(aw (aM (bq "tuple" ↥0) (aM (w2 (wB aP (ao ↥0 ak)) ⇑2 bA) (aM (az (aI eB) (ao (w2 ↥0 ⇑0 aD) ak)) (az (aI cj) (ao (w2 ↥0 ⇑1 aD) ak))))))
abbrev zJ:aL:=(aw (aM (bq "tuple" ↥0) (aM (w2 (wB aP (ao ↥0 ak)) ↥2 bA) (w2 (w2 ↥0 ⇑0 aD) ↥1 bA))))
abbrev xO:aL:=(aw (aM (az ft (ao ↥0 (ao ↥1 (ao ⇑2 ak)))) (az (aI (aO 4)) (ao (w2 ↥0 ⇑1 aD) ak))))
abbrev BA:aL:=(aq (aX (cT (az ft (ao ↥0 (ao ⇑"is" (ao ⇑2 ak))))) (aw (az (aI ck) (ao (w2 ↥0 ⇑1 aD) ak))) aG) (aw (az jb (ao ↥0 (ao ⇑"as" ak)))))
abbrev v5:aL:=(aq (aX (cE (cT (az ft (ao ↥0 (ao ⇑"any" (ao ⇑1 ak))))) (cE (cT (az ft (ao ↥0 (ao ⇑"word" (ao ⇑1 ak))))) (cT (az ft (ao ↥0 (ao ⇑"number" (ao ⇑1 ak))))))) (aw (wC (.bool ah))) aG) (aw (ec (az (aI cv) (ao ↥0 ak)) (az jb (ao ↥0 (ao ⇑"bind" ak))))))
abbrev zm:aL:=(aw (ec (az (aI cv) (ao ↥0 ak)) (az jb (ao ↥0 (ao ⇑"next" ak)))))
abbrev yu:aL:=(aw (aM (bq "tuple" ↥0) (cV dA dA ⇑1 (wB aP (ao ↥0 ak)) ⇑4)))
abbrev xW:aL:=(aw (aM (az (aI fh) (ao ↥0 ak)) (wB bu (ao (aV (bB [af] (bN ↥0) (aF 0) aQ (az (aI dJ) (ao ↥0 ak)))) ak))))
abbrev xn:aL:=(aw (aM (az (aI fh) (ao ↥0 ak)) (wB bu (ao (aV (bB [af] (bN ↥0) (aF 0) aQ (az (aI eR) (ao ↥0 ak)))) ak))))
abbrev Vn:aL:=(aw (wB gD (ao (aV (qg (aV (bB [af] (bN ↥0) (aF 0) (cT (w2 (w2 ↥0 ⇑0 aD) ⇑"bind" bA)) (w2 ↥0 ⇑1 aD))))) ak)))
abbrev Ia:aL:=(aw (aM (az (aI jk) (ao ↥0 ak)) (w2 ↥0 ⇑0 ES)))
abbrev J3:aL:=(aw (aM (az ft (ao ↥0 (ao ⇑"lay" (ao ⇑3 ak)))) (aM (az (aI ek) (ao (w2 ↥0 ⇑1 aD) ak)) (az (aI cj) (ao (w2 ↥0 ⇑2 aD) ak)))))
abbrev HC:aL:=(aw (aM (az ft (ao ↥0 (ao ⇑"take" (ao ⇑2 ak)))) (az (aI bY) (ao (w2 ↥0 ⇑1 aD) ak))))
abbrev FF:aL:=(aw (aM (az ft (ao ↥0 (ao ⇑"read" (ao ⇑2 ak)))) (az (aI bY) (ao (w2 ↥0 ⇑1 aD) ak))))
abbrev FI:aL:=(aw (aM (az ft (ao ↥0 (ao ⇑"look" (ao ⇑3 ak)))) (aM (az (aI bY) (ao (w2 ↥0 ⇑1 aD) ak)) (az (aI fj) (ao (w2 ↥0 ⇑2 aD) ak)))))
abbrev ET:aL:=(aq (aX (bw (cT (az ft (ao ↥0 (ao ⇑"same" (ao ⇑4 ak)))))) (aw (wC (.bool ai))) aG) (aw (aM (az (aI cv) (ao (w2 ↥0 ⇑1 aD) ak)) (aM (az (aI cv) (ao (w2 ↥0 ⇑2 aD) ak)) (az (aI fj) (ao (w2 ↥0 ⇑3 aD) ak))))))
abbrev Ly:aL:=(aw (aM (az ft (ao ↥0 (ao ⇑"go" (ao ⇑2 ak)))) (az (aI fj) (ao (w2 ↥0 ⇑1 aD) ak))))
abbrev J0:aL:=(aq (aX (cE (cT (az (aI gX) (ao ↥0 ak))) (cE (cT (az (aI (gV "take")) (ao ↥0 ak))) (cT (az (aI (gV "read")) (ao ↥0 ak))))) (aw (wC (.bool ah))) aG) (aw (ec (az (aI lW) (ao ↥0 ak)) (ec (az (aI iX) (ao ↥0 ak)) (az (aI lU) (ao ↥0 ak))))))
abbrev KZ:aL:=(aq (aX (cE (bw (cT (bq "tuple" ↥0))) (cT (w2 (wB aP (ao ↥0 ak)) ⇑4 k7))) (aw (wC (.bool ai))) aG) (aq (aX (bw (cT (wB bu (ao (aV (bB [af] (bN ↥0) (aF 0) aQ (az (aI (aO 4)) (ao ↥0 ak)))) ak)))) (aw (wC (.bool ai))) aG) (aw (wB bu (ao (aV (bB [af,af] (zI ↥0 (cu ↥0 (cg ⇑1) cJ)) ⇑1021 aQ (w2 ↥0 ↥1 eV))) ak)))))
abbrev Lf:aL:=(aw (aM (bq "tuple" ↥0) (aM (w2 (wB aP (ao ↥0 ak)) ⇑8 dA) (wB bu (ao (aV (bB [af] (bN ↥0) (aF 0) aQ (az (aI cP) (ao ↥0 ak)))) ak)))))
abbrev FG:aL:=(aw (aM (bq "tuple" ↥0) (aM (w2 (wB aP (ao ↥0 ak)) ⇑2 bA) (aM (az (aI fF) (ao (w2 ↥0 ⇑0 aD) ak)) (az (aI jc) (ao (w2 ↥0 ⇑1 aD) ak))))))
abbrev HX:aL:=(aw (aM (w2 ↥0 ⇑"" iG) (wB bu (ao (aV (bB [af] (fc ↥0) (aF 0) aQ (cV dA dA ⇑"0" ↥0 ⇑"9"))) ak))))
abbrev rl:aL:=(aq (aX (cE (cT (w2 (wB aP (ao ↥0 ak)) (wB aP (ao (wB cm (ao ⇑99 ak)) ak)) k7)) (bw (cT (az si (ao ↥0 ak))))) (aw (wC .none)) aG) (aq (aT 1 (wB AE (ao ↥0 ak))) (aw (eQ (cT (w2 (wB cm (ao ↥1 ak)) ↥0 bA)) ↥1 (wC .none)))))
abbrev JI:aL:=(aw (eQ (cT (az (aI (aO 8)) (ao ↥0 ak))) ↥0 (az ph (ao ↥0 ak))))
abbrev vU:aL:=(aq (bj (tO ["any","word","number"]) (aF 1) (aX (cT ⇑1004) (aw (aB (ao ↥1 ak))) aG)) (aq (bj (tO ["bind","as","next"]) (aF 1) (aX ⇑1001 ⇑1012 aG)) (aq (aT 2 (az sI (ao ↥0 ak))) (aw (eQ (cT (w2 ↥2 (wC .none) (bz ai))) (wC .none) (aB (ao ⇑"is" (ao ↥2 ak))))))))
abbrev K1:aL:=(aq (aT 1 (eQ (cT (jZ ↥0 ⇑"@")) (az ph (ao (ia ↥0 ⇑1) ak)) (wC .none))) (aw (eQ (cT (az (aI cj) (ao ↥1 ak))) ↥1 (wC .none))))
abbrev La:aL:=(aw (eQ (cT (jZ ↥0 ⇑">")) (az ph (ao (ia ↥0 ⇑1) ak)) (wC .none)))
abbrev Zf:List Str:=["take","read","look"]
abbrev IS:aL:=(aq (aT 3 ⇑1023) (aq (aT 4 ⇑1014) (aq (bD 5 (ky ↥3)) (aq (bj (bN (cu ↥4 cJ (cg ↥2))) (aF 6) (aX (cT (dH Zf (w2 ↥6 ⇑0 aD))) (ni 5 (az lX (ao (w2 ↥6 ⇑1 aD) ak))) aG)) (bW 5 (aw (wB gD (ao (aV (qg ↥5)) ak))))))))
abbrev xr:aL:=(aq (aX (cT (w2 (w2 ↥0 ⇑0 aD) ⇑"same" bA)) (aw (cu ↥0 (cg ⇑1) (cg ⇑3))) aG) (aw (eQ (cT (w2 (w2 ↥0 ⇑0 aD) ⇑"go" bA)) (aB ak) (w2 ↥0 ⇑1 aD))))
abbrev Hv:aL:=(aq (bj (vI ↥0) (cR 2 (bP (aF 2) (bP (aF 3) cq))) (aX (df (cT (w2 (w2 ↥3 ⇑0 aD) (aB ⇑1019) (gn ai))) (df (cT (w2 (w2 ↥3 ⇑1 aD) ↥1 (gn ah))) (cT (w2 (w2 ↥3 ⇑1 aD) (az lX (ao (cu ↥0 cJ (cg ↥2)) ak)) (gn ah))))) (aw ↥2) aG)) (aw (wC .none)))
abbrev Jx:aL:=(aw (aM (w2 ↥1 (wB aP (ao ↥0 ak)) eV) (wB bu (ao (aV (bB [af,ae 2] (bN ⇑1023) (aF 0) aQ (w2 ↥0 ↥1 (gn ai)))) ak))))
abbrev Zc:List Str:=["look","same","go"]
abbrev Lz:aL:=(aq (aT 3 (w2 ⇑1014 ↥2 aD)) (aq (aT 4 (az wF (ao ↥0 (ao ↥1 (ao ↥2 ak))))) (aq (aT 5 (az uu (ao ↥3 ak))) (aq (aT 6 (az vw (ao ↥5 (ao ↥4 ak)))) (aq (aX (cT (w2 ↥6 (wC .none) (bz ah))) (aw (w2 ⇑1 ↥6 (dN λi j=>.int (i+j)))) aG) (aq (aX (df (cT (dH Zc (w2 ↥3 ⇑0 aD))) (bw (cT (az sV (ao ↥0 (ao (w2 ↥3 (cY ⇑1) aD) (ao ↥4 ak))))))) (aw (w2 ⇑1 (wB aP (ao ↥5 ak)) (dN λi j=>.int (i+j)))) aG) (aw (wC .none))))))))
abbrev CW:aL:=(aq (aT 2 ⇑1014) (aw (wB bu (ao (aV (bB [af,ae 1,ae 0] (dF (wB aP (ao ↥2 ak))) (aF 0) aQ (w2 (az mU (ao ↥2 (ao ↥1 (ao ↥0 ak)))) (wC .none) (bz ai)))) ak))))
abbrev Jq:aL:=(aq (aX (cE (bw (cT (bq "tuple" ↥0))) (bw (cT (cV dA dA ⇑1 (wB aP (ao ↥0 ak)) ⇑6)))) (aw (wC (.bool ai))) aG) (aw (wB bu (ao (aV (bB [af] (bN ↥0) (aF 0) aQ (az (aI gS) (ao ↥0 ak)))) ak))))
abbrev K6:aL:=(aq (aX (cE (bw (cT (az (aI i4) (ao ↥0 ak)))) (cT (w2 (w2 (w2 ↥0 ⇑0 aD) ⇑0 aD) (aB ak) (k0 ah)))) (aw (wC (.bool ai))) aG) (aw (wB bu (ao (aV (bB [af,ae 0] (dF (wB aP (ao ↥0 ak))) (aF 0) aQ (az rD (ao ↥1 (ao ↥0 ak))))) ak))))
abbrev KP:aL:=(aq (aX (cE (bw (cT (bq "tuple" ↥0))) (cT (w2 (wB aP (ao ↥0 ak)) ⇑5 k7))) (aw (wC (.bool ai))) aG) (aw (wB bu (ao (aV (bB [af] (bN ↥0) (aF 0) aQ (az qJ (ao ↥0 ak)))) ak))))
abbrev KY:aL:=(aw (aM (bq "tuple" ↥0) (aM (w2 (wB aP (ao ↥0 ak)) ⇑12 dA) (wB bu (ao (aV (bB [af] (bN ↥0) (aF 0) aQ (az (aI iz) (ao ↥0 ak)))) ak)))))
abbrev BU:aL:=(aw (aM (bq "tuple" ↥0) (aM (w2 (wB aP (ao ↥0 ak)) ⇑2 bA) (aM (az xV (ao (w2 ↥0 ⇑0 aD) ak)) (az (aI js) (ao (w2 ↥0 ⇑1 aD) ak))))))
abbrev J5:aL:=(aq (aX ⇑1016 (aw (aM (w2 ↥2 (aV (aR ak)) bA) (w2 (wB aP (ao ↥1 ak)) ⇑12 eV))) aG) (aq (aX (cT (w2 ↥0 ⇑"hand" bA)) (aw (aM (cy (az mW (ao ↥2 ak))) (w2 (wB aP (ao ↥2 ak)) ⇑5 eV))) aG) (aq (aX (cT (w2 ↥0 ⇑"block" bA)) (aw (aM (w2 ↥2 (aV (aR ak)) ly) (w2 (wB aP (ao (w2 ↥2 (cY ⇑1) aD) ak)) ⇑6 eV))) aG) (aq (aX (cT (dH Za ↥0)) (aw (aM (w2 ↥2 (aV (aR ak)) ly) (aM (w2 (w2 ↥2 (cY ⇑1) aD) (aV (aR ak)) ly) (w2 (wB aP (ao (w2 (w2 (w2 ↥2 (cY ⇑1) aD) (cY ⇑1) aD) ⇑1 aD) ak)) ⇑8 eV)))) aG) (aw (wC (.bool ai)))))))
abbrev IE:aL:=(aw (aM (w2 ↥0 (aV (aR ak)) ly) (w2 (w2 ↥0 (cY ⇑1) aD) (aV (aR ak)) bA)))
abbrev Lm:aL:=(aq (aX (cT (w2 ↥0 ⇑"block" bA)) (aw ↥1) aG) (aw (eQ ⇑1016 (az sI (ao ↥1 ak)) (az wH (ao ↥1 ak)))))
abbrev KL:aL:=(aq (aX ⇑1016 (aw (az (aI eB) (ao ↥1 ak))) aG) (aq (aX (cT (w2 ↥0 ⇑"block" bA)) (aw (az (aI fF) (ao ↥1 ak))) aG) (aq (aX (cT (w2 ↥0 ⇑"lay" bA)) (aw (az (aI ek) (ao ↥1 ak))) aG) (aq (aX (cT (w2 ↥0 (aB (ao ⇑"take" (ao ⇑"read" (ao ⇑"look" ak)))) (gn ai))) (aw (az (aI bY) (ao ↥1 ak))) aG) (aw (aM (w2 ↥0 ⇑"same" bA) (aM (w2 (wB aP (ao ↥1 ak)) ⇑2 dA) (wB bu (ao (aV (bB [af] (bN ↥1) (aF 0) aQ (az (aI cv) (ao ↥0 ak)))) ak)))))))))
abbrev FJ:aL:=(aq (aT 1 (aB ak)) (aq (bj (eY (wZ ↥0 (cg ⇑1) cJ)) (aF 2) (aq (aT 3 (w2 ↥1 (aB (ao (az AG (ao (w2 ↥0 ⇑0 aD) (ao ↥2 ak))) ak)) iQ)) (aq (aX (bw (cT (az tG (ao (w2 ↥0 ⇑0 aD) (ao ↥3 ak))))) (aw ↥1) aG) (aT 1 ↥3)))) (aw ↥1)))
abbrev JX:aL:=(aq (aT 2 (w2 ↥0 ⇑0 aD)) (aq (aX (cE (cT (w2 ↥1 ⇑1013 eV)) (cT (w2 (w2 ↥1 ⇑1 (dN λi j=>.int (i+j))) (wB aP (ao ↥0 ak)) bA))) (aw (wC .none)) aG) (aq (aX (cT (dH ["note","lay"] ↥2)) (aw (az AV (ao (w2 ↥0 (w2 ↥1 ⇑1 (dN λi j=>.int (i+j))) aD) ak))) aG) (aw (eQ (cT (dH Zc ↥2)) (az yK (ao (w2 ↥0 (w2 ↥1 ⇑1 (dN λi j=>.int (i+j))) aD) ak)) (wC .none))))))
abbrev Ic:aL:=(aq (aX (cT (w2 ↥0 (aB (ao ⇑"hand" (ao ⇑"block" ak))) (gn ai))) (aw ↥1) aG) (aq (aX ⇑1016 (aw (aB (ao ↥1 (ao ↥2 ak)))) aG) (aq (aX (cT (w2 ↥0 (aB (ao ⇑"lay" (ao ⇑"look" ak))) (gn ai))) (aw (aB (ao ↥0 (ao ↥1 (ao ↥2 ak))))) aG) (aq (aX (cT (w2 ↥0 (aB (ao ⇑"take" (ao ⇑"read" ak))) (gn ai))) (aw (aB (ao ↥0 (ao ↥1 ak)))) aG) (aw (w2 (w2 (aB (ao ↥0 ak)) ↥1 iQ) (aB (ao ↥2 ak)) iQ))))))
abbrev GV:aL:=(aq (aT 2 (w2 ↥1 ⇑0 aD)) (aq (aT 3 (az xY (ao ↥1 ak))) (aq (aT 4 (az vj (ao ↥1 (ao (wB aP (ao ↥3 ak)) ak)))) (aq (aT 5 (w2 (w2 ⇑1 (wB aP (ao ↥3 ak)) (dN λi j=>.int (i+j))) (eQ (cT (w2 ↥4 (wC .none) (bz ai))) ⇑0 ⇑1) (dN λi j=>.int (i+j)))) (aq (aT 6 (ec (w2 (wB aP (ao ↥3 ak)) ⇑1013 eV) (aM (dH Zc ↥2) (w2 ↥4 (wC .none) (bz ai))))) (aq (aX (cE (cT ↥6) (cT (w2 ↥5 (wB aP (ao ↥1 ak)) eV))) m6 aG) (aw (az vD (ao ↥2 (ao ↥3 (ao ↥4 ak)))))))))))
abbrev EM:aL:=(aw (wB gD (ao (aV (bB [af,af] (eY ↥0) ⇑1021 aQ (aB (ao ↥0 (ao (wB gD (ao ↥1 ak)) ak))))) ak)))
abbrev JH:aL:=(aq (aX (df (cT (w2 ↥1 ⇑0 bA)) (cT (w2 ⇑1023 (aB ak) (k0 ah)))) m6 aG) (bj (dF (wB aP (ao ⇑1014 ak))) (aF 3) (aq (aT 4 (az mU (ao ↥0 (ao ↥1 (ao ↥3 ak))))) (aX (cT (w2 ↥4 (wC .none) (bz ah))) m6 aG))))
abbrev CI:aL:=(aq (aT 1 (wB aP (ao (w2 ↥0 ⇑1 aD) ak))) (bj (bN (w2 ↥0 ⇑0 aD)) (aF 2) (aq (rW 1 ⇑1) (bj (dF (wB aP (ao ↥2 ak))) (aF 3) (aq (og (az BP (ao ↥2 (ao ↥3 (ao ↥1 ak))))) (rW 1 (w2 ⇑1 (wB aP (ao (w2 (w2 ↥2 ↥3 aD) ⇑1 aD) ak)) (dN λi j=>.int (i+j)))))))))
abbrev DK:aL:=(aw (w2 (aV (aR (ao ⇑"a" (ao ⇑0 (ao ⇑"a" (ao ⇑1 (ao ⇑"ab" (ao ⇑"go" (ao ⇑99 (ao ⇑0 ak)))))))))) (az cU (ao ↥0 (ao ⇑8 ak))) aD))
abbrev LA:aL:=(aw (w2 (aV (aR (ao ⇑1 (ao ⇑2 (ao ⇑2 (ao ⇑2 (ao ⇑1 (ao ⇑3 (ao ⇑4 ak))))))))) (az cU (ao ↥0 (ao ⇑7 ak))) aD))
abbrev JK:aL:=(aw (w2 (gp 0) (az cU (ao ↥0 (ao (wB iF (ao (gp 0) ak)) ak))) a8))
abbrev Lw:aL:=(aq (bD 2 (aR ak)) (aq (bD 3 (aR ak)) (aq (bj (dF (az nN (ao ↥0 ak))) (aF 4) (aq (aT 5 (az cU (ao ↥0 (ao ⇑9 ak)))) (aq (aT 6 (w2 ↥1 (fL 3) eA)) (aX (cT (w2 ↥5 ⇑3 eV)) (br 2 ⇑1007) (aX (cT (w2 ↥5 ⇑6 eV)) (br 2 (w2 (aV (aR (ao (aB (ao ⇑"any" ak)) (ao (aB (ao ⇑"word" ak)) (ao (aB (ao ⇑"number" ak)) ak))))) (w2 ↥5 ⇑3 (dN λi j=>.int (i-j))) a8)) (aX (cE (cT (w2 ↥5 ⇑8 eV)) (cT (w2 ↥6 (aV (aR ak)) cf))) (aq (aT 7 (w2 ⇑1015 ⇑1010 a8)) (aq (br 3 ↥7) (br 2 (aB (ao ⇑"bind" (ao ↥7 ak)))))) (br 2 (aB (ao ⇑"as" (ao (w2 ↥6 (az cU (ao ↥0 (ao (wB iF (ao ↥6 ak)) ak))) a8) ak)))))))))) (bW 2 (bW 3 (aw (aB (ao (wB iT (ao ↥2 ak)) (ao ↥3 ak)))))))))
abbrev FV:aL:=(aq (bD 2 (aR ak)) (aq (bj (dF (az nN (ao ↥0 ak))) (aF 3) (aq (aT 4 (az cU (ao ↥0 (ao ⇑6 ak)))) (aX (cE (cT (w2 ↥4 ⇑3 eV)) (cT (w2 ↥1 (aV (aR ak)) cf))) (br 2 ⇑1007) (br 2 (aB (ao (w2 (aV (aR (ao ⇑"as" ⇑1019))) (w2 ↥4 ⇑3 (dN λi j=>.int (i-j))) a8) (ao (w2 ↥1 (az cU (ao ↥0 (ao (wB iF (ao ↥1 ak)) ak))) a8) ak))))))) (bW 2 (aw (wB iT (ao ↥2 ak))))))
abbrev Kg:aL:=(aq (aX (cE (cT (w2 ↥1 (aV (aR ak)) cf)) (cT (w2 (az cU (ao ↥0 (ao ⇑2 ak))) ⇑0 cf))) (aw ⇑1007) aG) (aw (aB (ao ⇑"as" (ao (w2 ↥1 (az cU (ao ↥0 (ao (wB iF (ao ↥1 ak)) ak))) a8) ak)))))
abbrev KJ:aL:=(aq (aT 3 (az cU (ao ↥0 (ao ⇑12 ak)))) (aq (aX (cT (w2 ↥3 ⇑4 eV)) (aw (aB (ao (aB (ao ⇑"lay" (ao (az yT (ao ↥0 (ao ↥1 ak))) (ao (az nX (ao ↥0 ak)) ak)))) (ao (aV (aR ak)) ak)))) aG) (aq (aT 4 (w2 ↥2 (az cU (ao ↥0 (ao (wB iF (ao ↥2 ak)) ak))) a8)) (aq (aX (cT (w2 ↥3 ⇑10 cf)) (aw (aB (ao (aB (ao ⇑"same" (ao (az tZ (ao ↥0 (ao ↥1 ak))) (ao (az tZ (ao ↥0 (ao ↥1 ak))) (ao ↥4 ak))))) (ao (aV (aR ak)) ak)))) aG) (aq (aX (cT (w2 ↥3 ⇑11 cf)) (aw (aB (ao (aB (ao ⇑"go" (ao ↥4 ak))) (ao (aV (aR ak)) ak)))) aG) (aq (g9 (az zh (ao ↥0 (ao ↥1 ak))) (cR 2 (bP (aF 5) (bP (aF 6) cq)))) (aq (aX (cT (w2 ↥3 ⇑7 k7)) (aw (aB (ao (aB (ao ⇑"look" (ao ↥5 (ao ↥4 ak)))) (ao ↥6 ak)))) aG) (aw (aB (ao (aB (ao (w2 (aV (aR (ao ⇑"take" (ao ⇑"take" (ao ⇑"take" (ao ⇑"read" ak)))))) (w2 ↥3 ⇑4 (dN λi j=>.int (i-j))) a8) (ao ↥5 ak))) (ao ↥6 ak)))))))))))
abbrev HL:aL:=(aq (bD 1 (aR (ao (aB ak) ak))) (aq (bj (dF (w2 (aV (aR (ao ⇑0 (ao ⇑1 (ao ⇑2 (ao ⇑1 (ao ⇑0 (ao ⇑2 (ao ⇑5 ak))))))))) (az cU (ao ↥0 (ao ⇑7 ak))) a8)) (aF 2) (br 1 (w2 (aV (aR (ao (aB ak) (ao (aB (ao ⇑"n" ak)) (ao (aB (ao ⇑"go" (ao ⇑"n" ak))) (ao (aB (ao ⇑"nm" ak)) (ao (aB ak) ak))))))) (az cU (ao ↥0 (ao ⇑5 ak))) a8))) (aq (bD 3 (aR ak)) (bW 1 (aq (bj (eY ↥1) (aF 4) (aq (bD 5 (ky ↥4)) ⇑1000)) (bW 3 (aw (wB iT (ao ↥3 ak)))))))))
abbrev HP:aL:=(aq (bD 2 (aR ak)) (aq (bj (dF (az cU (ao ↥0 (ao (w2 ↥1 ⇑1 (dN λi j=>.int (i+j))) ak)))) (aF 3) (aq (aT 4 (wB iT (ao (aV (bB [af,ae 0] (dF (az nN (ao ↥0 ak))) (aF 0) aQ (az kH (ao ↥1 ak)))) ak))) (br 2 (aB (ao ↥4 (ao (az nX (ao ↥0 ak)) ak)))))) (bW 2 (aw (wB iT (ao ↥2 ak))))))
abbrev JT:aL:=(aq (bD 1 (bB [af,ae 0] (dF (w2 (aV (aR (ao ⇑2 (ao ⇑1 (ao ⇑2 (ao ⇑3 (ao ⇑2 (ao ⇑1 (ao ⇑0 (ao ⇑5 ak)))))))))) (az cU (ao ↥0 (ao ⇑8 ak))) a8)) (aF 0) aQ (az yz (ao ↥1 ak)))) (aq (aX (df (cT (w2 (wB iF (ao (fL 1) ak)) ⇑2 cf)) (cT (w2 ⇑1010 ⇑0 cf))) (hV 1 ⇑1 (w2 (fL 1) ⇑0 a8)) aG) (bW 1 ⇑1009)))
theorem Yl:∀ws n Q,aI jk ws n Q->ws.length=1:=λ_ _ _ h=>dX h
abbrev Zb:List Str:=["thing"]
theorem LU:∀ws n Q,aI jk ws n Q->v9 (cz Zb ws) n {nx:=λ_ n=>Q (.d .none) n,rt:=Q}:=dY λd n K k=>by
 show v9 [↑d] n K;unfold v9;cases d<;>(simp only[aj,cR,bP,cq,cu,cJ,cg,wC,w2,cT,cV,eP,cE,bw,aM,ec,cy,ak,ao,aV,az,wB,aG,aq,aw,aX,bX,bA,bz,aD,aP,bq,bu,bN,fc,bB,dR,aQ,aF,dO,C9,Bg,Bm,Br,B7,A3,Bo,Cu,gx,gs,gf,fS,f9];simpa[jk]using k)
theorem Zq:∀ws n Q,lT ws n Q->ws.length=2:=λws n Q h=>by
 unfold lT at h
 split at h
 ·rfl
 ·exact h.elim
theorem ZC:bS lT vG ["thing","longest"]:=λws n Q h=>by
 unfold lT at h
 split at h
 ·rename_i d k;show vG [↑d,↑(.int k)] n _;unfold vG;cases d with
  |str x=>
   simp only[aj,cR,bP,cq,cu,cJ,cg,wC,w2,cT,cV,eP,cE,bw,aM,ec,cy,ak,ao,aV,az,wB,aG,aq,aw,aX,bX,bA,bz,aD,aP,bq,bu,bN,fc,bB,dR,aQ,aF,dO,C9,Bg,Bm,Br,B7,A3,Bo,Cu,gx,gs,gf,fS,f9];simp only[Bool.not_true,Cb,if_false];simp only[aO]at h;refine ku (λe1=>?_) (λe1=>?_)
   ·refine ku (λe2=>?_) (λe2=>?_)
    ·rw[e1,e2,Cm,Cm]at h;exact Ol x h
    ·rw[e1,e2]at h;exact h
   ·rw[e1]at h;exact h
  |_=>simp only[aj,cR,bP,cq,cu,cJ,cg,wC,w2,cT,cV,eP,cE,bw,aM,ec,cy,ak,ao,aV,az,wB,aG,aq,aw,aX,bX,bA,bz,aD,aP,bq,bu,bN,fc,bB,dR,aQ,aF,dO,C9,Bg,Bm,Br,B7,A3,Bo,Cu,gx,gs,gf,fS,f9];exact h
 ·exact h.elim
theorem Qc:∀ws n Q,aI (aO 8) ws n Q->ws.length=1:=λ_ _ _ h=>dX h
theorem Zl:∀ws n Q,aI (aO 8) ws n Q->RO (cz Zb ws) n {nx:=λ_ n=>Q (.d .none) n,rt:=Q}:=dY λd n K k=>k
theorem Zp:∀ws n Q,aI (aO 4) ws n Q->ws.length=1:=λ_ _ _ h=>dX h
theorem TU:∀ws n Q,aI (aO 4) ws n Q->U7 (cz Zb ws) n {nx:=λ_ n=>Q (.d .none) n,rt:=Q}:=dY λd n K k=>k
theorem VS:∀ws n Q,aI jh ws n Q->ws.length=1:=λ_ _ _ h=>dX h
theorem Xv:∀ws n Q,aI jh ws n Q->uE (cz Zb ws) n {nx:=λ_ n=>Q (.d .none) n,rt:=Q}:=dY λd n K k=>by
 show uE [↑d] n K;unfold uE;simp only[aw,aM,az,ao,ak,aj,Bg,aI,eP,cV,wC];exact Ih k
theorem Wy:∀ws n Q,aI ck ws n Q->ws.length=1:=λ_ _ _ h=>dX h
theorem RJ:∀ws n Q,aI ck ws n Q->uD (cz Zb ws) n {nx:=λ_ n=>Q (.d .none) n,rt:=Q}:=dY λd n K k=>by
 show uD [↑d] n K;unfold uD;simp only[aj,cR,bP,cq,cu,cJ,cg,wC,w2,cT,cV,eP,cE,bw,aM,ec,cy,ak,ao,aV,az,wB,aG,aq,aw,aX,bX,bA,bz,aD,aP,bq,bu,bN,fc,bB,dR,aQ,aF,dO,C9,Bg,Bm,Br,B7,A3,Bo,Cu,gx,gs,gf,fS,f9,aI];exact sf (F:=λb=>K.rt (.d (.bool b)) n) k id
theorem XY:∀ws n Q,aI eB ws n Q->ws.length=1:=λ_ _ _ h=>dX h
theorem SK:∀ws n Q,aI eB ws n Q->xM (cz Zb ws) n {nx:=λ_ n=>Q (.d .none) n,rt:=Q}:=dY λd n K k=>by
 show xM [↑d] n K;unfold xM;cases d with
 |tuple ds=>
  simp only[eB]at k;simp only[aj,cR,bP,cq,cu,cJ,cg,wC,w2,cT,cV,eP,cE,bw,aM,ec,cy,ak,ao,aV,az,wB,aG,aq,aw,aX,bX,bA,bz,aD,aP,bq,bu,bN,fc,bB,dR,aQ,aF,dO,C9,Bg,Bm,Br,B7,A3,Bo,Cu,gx,gs,gf,fS,f9];simp only[Bool.not_true,Cb,if_false];refine ku (λe1=>?_) (λe1=>?_)
  ·refine ku (λe2=>?_) (λe2=>?_)
   ·rw[e1,e2,Cm,Cm]at k;exact Zy ds k
   ·rw[e1,e2]at k;exact k
  ·rw[e1]at k;exact k
 |_=>simp only[aj,cR,bP,cq,cu,cJ,cg,wC,w2,cT,cV,eP,cE,bw,aM,ec,cy,ak,ao,aV,az,wB,aG,aq,aw,aX,bX,bA,bz,aD,aP,bq,bu,bN,fc,bB,dR,aQ,aF,dO,C9,Bg,Bm,Br,B7,A3,Bo,Cu,gx,gs,gf,fS,f9];exact k
theorem LR:∀ws n Q,aI cj ws n Q->ws.length=1:=λ_ _ _ h=>dX h
theorem Ra:∀ws n Q,aI cj ws n Q->wJ (cz Zb ws) n {nx:=λ_ n=>Q (.d .none) n,rt:=Q}:=dY λd n K k=>by
 show wJ [↑d] n K;unfold wJ;simp only[aw,ec,w2,aM,az,ao,ak,aj,Bg,aI,eP,cV,wC,bz,Cb,if_false];exact sf (F:=λb=>K.rt (.d (.bool b)) n) k Ih
theorem P9:∀ws n Q,aI iz ws n Q->ws.length=1:=λ_ _ _ h=>dX h
theorem Pq:∀ws n Q,aI iz ws n Q->yi (cz Zb ws) n {nx:=λ_ n=>Q (.d .none) n,rt:=Q}:=dY λd n K k=>by
 show yi [↑d] n K;unfold yi;cases d with
 |tuple ds=>
  simp only[aj,cR,bP,cq,cu,cJ,cg,wC,w2,cT,cV,eP,cE,bw,aM,ec,cy,ak,ao,aV,az,wB,aG,aq,aw,aX,bX,bA,bz,aD,aP,bq,bu,bN,fc,bB,dR,aQ,aF,dO,C9,Bg,Bm,Br,B7,A3,Bo,Cu,gx,gs,gf,fS,f9,aI,jH];rcases ds with _|⟨a,_|⟨b,_|⟨c,r⟩⟩⟩
  ·exact k
  ·exact k
  ·show if eB a=ah then K.rt (.d (.bool (cj b))) n else K.rt (.d (.bool ai)) n
   exact p8 (F:=λb=>K.rt (.d (.bool b)) n) k λ_ z=>z
  ·have e:decide (((a::b::c::r).length:Int)=2)=ai:=decide_eq_false (by simp only[Am];omega);simp only[if_true,e,Cb,if_false];exact k
 |_=>simp only[aj,cR,bP,cq,cu,cJ,cg,wC,w2,cT,cV,eP,cE,bw,aM,ec,cy,ak,ao,aV,az,wB,aG,aq,aw,aX,bX,bA,bz,aD,aP,bq,bu,bN,fc,bB,dR,aQ,aF,dO,C9,Bg,Bm,Br,B7,A3,Bo,Cu,gx,gs,gf,fS,f9];exact k
theorem Y5:∀ws n Q,ft ws n Q->ws.length=3:=λws n Q h=>by
 unfold ft at h
 split at h
 ·rfl
 ·exact h.elim
theorem W3:bS ft zJ ["thing","head","many"]:=λws n Q h=>by
 unfold ft at h
 split at h
 ·rename_i d hd k;obtain⟨hk,h⟩:=h;show zJ [↑d,↑(.str hd),↑(.int k)] n _;unfold zJ;cases d with
  |tuple ds=>
   simp only[aj,cR,bP,cq,cu,cJ,cg,wC,w2,cT,cV,eP,cE,bw,aM,ec,cy,ak,ao,aV,az,wB,aG,aq,aw,aX,bX,bA,bz,aD,aP,bq,bu,bN,fc,bB,dR,aQ,aF,dO,C9,Bg,Bm,Br,B7,A3,Bo,Cu,gx,gs,gf,fS,f9,eq_int,eq_str];simp only[if_true];by_cases e:(ds.length:Int)=k
   ·rcases ds with _|⟨a,r⟩
    ·exfalso;have e:(0:Int)=k:=e;omega
    ·simp only[bQ,decide_eq_true e,if_true,Cm]at h ⊢;simp only[oX,eq_str];exact h
   ·simp only[bQ,decide_eq_false e,Cb,if_false,E2]at h ⊢;exact h
  |_=>simp only[aj,cR,bP,cq,cu,cJ,cg,wC,w2,cT,cV,eP,cE,bw,aM,ec,cy,ak,ao,aV,az,wB,aG,aq,aw,aX,bX,bA,bz,aD,aP,bq,bu,bN,fc,bB,dR,aQ,aF,dO,C9,Bg,Bm,Br,B7,A3,Bo,Cu,gx,gs,gf,fS,f9];exact h
 ·exact h.elim
theorem Nr:∀ws n Q,jb ws n Q->ws.length=2:=λws n Q h=>by
 unfold jb at h
 split at h
 ·rfl
 ·exact h.elim
theorem Uk:bS jb xO ["thing","head"]:=λws n Q h=>by
 unfold jb at h
 split at h
 ·rename_i d hd;show xO [↑d,↑(.str hd)] n _;unfold xO;simp only[aj,cR,bP,cq,cu,cJ,cg,wC,w2,cT,cV,eP,cE,bw,aM,ec,cy,ak,ao,aV,az,wB,aG,aq,aw,aX,bX,bA,bz,aD,aP,bq,bu,bN,fc,bB,dR,aQ,aF,dO,C9,Bg,Bm,Br,B7,A3,Bo,Cu,gx,gs,gf,fS,f9,ft,aI];refine⟨by decide,?_⟩;refine p8 (F:=λb=>Q (.d (.bool b)) n) h λe z=>?_;obtain⟨a,b,rfl⟩:=ED e;exact z
 ·exact h.elim
theorem Yy:∀ws n Q,aI cv ws n Q->ws.length=1:=λ_ _ _ h=>dX h
theorem Yc:∀ws n Q,aI cv ws n Q->BA (cz Zb ws) n {nx:=λ_ n=>Q (.d .none) n,rt:=Q}:=dY λd n K k=>by
 show BA [↑d] n K;unfold BA;simp only[aj,cR,bP,cq,cu,cJ,cg,wC,w2,cT,cV,eP,cE,bw,aM,ec,cy,ak,ao,aV,az,wB,aG,aq,aw,aX,bX,bA,bz,aD,aP,bq,bu,bN,fc,bB,dR,aQ,aF,dO,C9,Bg,Bm,Br,B7,A3,Bo,Cu,gx,gs,gf,fS,f9,ft,jb,aI];refine⟨by decide,?_⟩;unfold cv at k;cases e:bQ "is" 2 d with
 |true=>
  rw[e,if_pos rfl]at k;grind;obtain⟨a,b,rfl⟩:=ED e;exact k
 |false=>
  rw[e,if_neg Al]at k;rw[if_neg Al];exact k
theorem QR:∀ws n Q,aI dJ ws n Q->ws.length=1:=λ_ _ _ h=>dX h
theorem Mx:∀ws n Q,aI dJ ws n Q->v5 (cz Zb ws) n {nx:=λ_ n=>Q (.d .none) n,rt:=Q}:=dY λd n K k=>by
 show v5 [↑d] n K;unfold v5;simp only[aj,cR,bP,cq,cu,cJ,cg,wC,w2,cT,cV,eP,cE,bw,aM,ec,cy,ak,ao,aV,az,wB,aG,aq,aw,aX,bX,bA,bz,aD,aP,bq,bu,bN,fc,bB,dR,aQ,aF,dO,C9,Bg,Bm,Br,B7,A3,Bo,Cu,gx,gs,gf,fS,f9,ft,jb,aI];unfold dJ at k;refine⟨by decide,?_⟩;cases e1:bQ "any" 1 d with
 |true=>rw[e1]at k;exact k
 |false=>
  rw[e1,Bool.false_or]at k;simp only[Cb,if_false];refine⟨by decide,?_⟩;cases e2:bQ "word" 1 d with
  |true=>rw[e2]at k;exact k
  |false=>
   rw[e2,Bool.false_or]at k;simp only[Cb,if_false];refine⟨by decide,?_⟩;cases e3:bQ "number" 1 d with
   |true=>rw[e3]at k;exact k
   |false=>
    rw[e3,Bool.false_or]at k;simp only[Cb,if_false];exact sf (F:=λb=>K.rt (.d (.bool b)) n) k id
theorem OZ:∀ws n Q,aI eR ws n Q->ws.length=1:=λ_ _ _ h=>dX h
theorem L0:∀ws n Q,aI eR ws n Q->zm (cz Zb ws) n {nx:=λ_ n=>Q (.d .none) n,rt:=Q}:=dY λd n K k=>by
 show zm [↑d] n K;unfold zm;simp only[aj,cR,bP,cq,cu,cJ,cg,wC,w2,cT,cV,eP,cE,bw,aM,ec,cy,ak,ao,aV,az,wB,aG,aq,aw,aX,bX,bA,bz,aD,aP,bq,bu,bN,fc,bB,dR,aQ,aF,dO,C9,Bg,Bm,Br,B7,A3,Bo,Cu,gx,gs,gf,fS,f9,ft,jb,aI];exact sf (F:=λb=>K.rt (.d (.bool b)) n) k id
theorem W7:∀ws n Q,aI fh ws n Q->ws.length=1:=λ_ _ _ h=>dX h
theorem T2:∀ws n Q,aI fh ws n Q->yu (cz Zb ws) n {nx:=λ_ n=>Q (.d .none) n,rt:=Q}:=dY λd n K k=>by
 show yu [↑d] n K;unfold yu;cases d with
 |tuple ds=>
  simp only[aj,cR,bP,cq,cu,cJ,cg,wC,w2,cT,cV,eP,cE,bw,aM,ec,cy,ak,ao,aV,az,wB,aG,aq,aw,aX,bX,bA,bz,aD,aP,bq,bu,bN,fc,bB,dR,aQ,aF,dO,C9,Bg,Bm,Br,B7,A3,Bo,Cu,gx,gs,gf,fS,f9];simp only[if_true];exact p8 (F:=λb=>K.rt (.d (.bool b)) n) k λ_ z=>z
 |_=>simp only[aj,cR,bP,cq,cu,cJ,cg,wC,w2,cT,cV,eP,cE,bw,aM,ec,cy,ak,ao,aV,az,wB,aG,aq,aw,aX,bX,bA,bz,aD,aP,bq,bu,bN,fc,bB,dR,aQ,aF,dO,C9,Bg,Bm,Br,B7,A3,Bo,Cu,gx,gs,gf,fS,f9];exact k
theorem Lv(e:fh d=ah):∃ds,d=.tuple ds:=by
 cases d with
 |tuple ds=>exact⟨ds,rfl⟩
 |_=>cases e
theorem sL{Q:DQ}(g)(ds:List Aa)(h:Q (.d (.bool (ds.all g))) n):cM (aF 0) aQ (az (aI g) (ao ↥0 ak))
  (λds n1=>match fe ds with|some bs=>Q (.d (.bool (bs.all id))) n1|none=>False) ds [] [af] n:=by
 refine kI (λ_=>True) (λd=>.bool (g d)) ?_ _ _ _ _ (λ_ _=>trivial) ?_
 ·exact λd n Q' _ k=>k
 ·show match fe (ds.map λd=>.bool (g d))with|some bs=>Q (.d (.bool (bs.all id))) n|none=>False
  simp only[mh,pK];exact h
theorem TY:∀ws n Q,aI bY ws n Q->ws.length=1:=λ_ _ _ h=>dX h
theorem Rt:∀ws n Q,aI bY ws n Q->xW (cz Zb ws) n {nx:=λ_ n=>Q (.d .none) n,rt:=Q}:=dY λd n K k=>by
 show xW [↑d] n K;unfold xW;simp only[aw,aM,az,ao,ak,aj,Bg,aI,eP,wB,aV,bB,bN,bu,dR,A3,Bo,Cu];refine p8 (F:=λb=>K.rt (.d (.bool b)) n) k λe z=>?_;obtain⟨ds,rfl⟩:=Lv e;exact sL dJ ds z
theorem S3:∀ws n Q,aI ek ws n Q->ws.length=1:=λ_ _ _ h=>dX h
theorem OF:∀ws n Q,aI ek ws n Q->xn (cz Zb ws) n {nx:=λ_ n=>Q (.d .none) n,rt:=Q}:=dY λd n K k=>by
 show xn [↑d] n K;unfold xn;simp only[aw,aM,az,ao,ak,aj,Bg,aI,eP,wB,aV,bB,bN,bu,dR,A3,Bo,Cu];refine p8 (F:=λb=>K.rt (.d (.bool b)) n) k λe z=>?_;obtain⟨ds,rfl⟩:=Lv e;exact sL eR ds z
section
variable{δ:Sl}{n:Int}{Q:DQ}{K:DEnds}{W V:aL}{i j:Nat}{ds:List Aa}
theorem b8(hu:∀Q:DQ,Q (.d (.bool a)) n->u δ n Q)(hv:a=ah->∀Q:DQ,Q (.d (.bool b)) n->v δ n Q)(k:Q (.d (.bool (a&&b))) n):aM u v δ n Q:=by
 refine hu _ ?_;cases a with
 |true=>exact hv rfl _ k
 |false=>exact k
theorem mn(hu:∀Q:DQ,Q (.d (.bool a)) n->u δ n Q)(hv:a=ai->∀Q:DQ,Q (.d (.bool b)) n->v δ n Q)(k:Q (.d (.bool (a || b))) n):ec u v δ n Q:=by
 refine hu _ ?_;cases a with
 |false=>exact hv rfl _ k
 |true=>exact k
theorem cn{Q:Bool->Int->Prop}(hu:∀Q:Bool->Int->Prop,Q a n->u δ n Q)(hv:a=ai->∀Q:Bool->Int->Prop,Q b n->v δ n Q)(k:Q (a || b) n):cE u v δ n Q:=by
 refine hu _ ?_;cases a with
 |false=>exact hv rfl _ k
 |true=>exact k
theorem eU{Q:Bool->Int->Prop}(hu:∀Q:Bool->Int->Prop,Q a n->u δ n Q)(hv:a=ah->∀Q:Bool->Int->Prop,Q b n->v δ n Q)(k:Q (a&&b) n):df u v δ n Q:=by
 refine hu _ ?_;cases a with
 |true=>exact hv rfl _ k
 |false=>exact k
theorem jm(hc:∀Q:Bool->Int->Prop,Q b n->C δ n Q)(hT:b=ah->W δ n K)(hF:b=ai->V δ n K):aX C W V δ n K:=by
 refine hc _ ?_;cases b with
 |true=>exact hT rfl
 |false=>exact hF rfl
theorem cX(hw:∀Q:DQ,Q (.d d) n->w δ n Q):∀Q:DQ,Q (.d (.bool (g d))) n->az (aI g) (ao w ak) δ n Q:=λQ q=>aW (hw _ q)
theorem nD(e:δ[i]?=ae (↑d))(hk:1<=k):∀Q:DQ,Q (.d (.bool (bQ h k d))) n->az ft (ao (aj i) (ao (wC (.str h)) (ao (wC (.int k)) ak))) δ n Q:=λQ q=>gA (au e (aJ (aJ ⟨hk,q⟩)))
end
theorem jt(e:bQ h k d=ah){i m:Nat}(es:δ[i]?=ae (↑d))(hm:(m:Int) < k):∀Q:DQ,Q (.d (eI m d)) n->w2 (aj i) (wC (.int (m:Nat))) aD δ n Q:=λQ q=>by
 obtain⟨ds,rfl,hl⟩:=BO e;have hm':m < ds.length:=by omega
 refine av (au es (aJ (eZ (Ar hm') ?_)));have:eI m (.tuple ds)=ds[m]:=by show ds.getD m .none=_;simp[hm']
 rw[<-this];exact q
theorem Wa:∀ws n Q,aI fj ws n Q->ws.length=1:=λ_ _ _ h=>dX h
theorem YB:∀ws n Q,aI fj ws n Q->Ia (cz Zb ws) n {nx:=λ_ n=>Q (.d .none) n,rt:=Q}:=dY λd n K k=>by
 show Ia [↑d] n K;cases d with
 |int i=>exact aY (b8 (a:=ah) (λQ q=>aW (au rfl (show aI jk [.d (.int i)] n Q from q))) (λ_ Q q=>av (au rfl (aJ q))) k)
 |_=>exact aY (b8 (a:=ai) (b:=ai) (λQ q=>aW (au rfl (show aI jk [.d _] n Q from q))) (λz=>nomatch z) k)
theorem O0:∀ws n Q,aI gX ws n Q->ws.length=1:=λ_ _ _ h=>dX h
theorem Qk:∀ws n Q,aI gX ws n Q->J3 (cz Zb ws) n {nx:=λ_ n=>Q (.d .none) n,rt:=Q}:=dY λd n K k=>by
 show J3 [↑d] n K;exact aY (b8 (nD rfl ∎) (λe Q q=>b8 (cX (g:=ek) (jt (m:=1) e rfl ∎)) (λ_ Q q=>cX (g:=cj) (jt (m:=2) e rfl ∎) Q q) q) k)
theorem PV:∀ws n Q,aI (gV "take") ws n Q->ws.length=1:=λ_ _ _ h=>dX h
theorem Wb:∀ws n Q,aI (gV "take") ws n Q->HC (cz Zb ws) n {nx:=λ_ n=>Q (.d .none) n,rt:=Q}:=dY λd n K k=>by
 show HC [↑d] n K;exact aY (b8 (nD rfl ∎) (λe Q q=>cX (g:=bY) (jt (m:=1) e rfl ∎) Q q) k)
theorem L7:∀ws n Q,aI (gV "read") ws n Q->ws.length=1:=λ_ _ _ h=>dX h
theorem Ql:∀ws n Q,aI (gV "read") ws n Q->FF (cz Zb ws) n {nx:=λ_ n=>Q (.d .none) n,rt:=Q}:=dY λd n K k=>by
 show FF [↑d] n K;exact aY (b8 (nD rfl ∎) (λe Q q=>cX (g:=bY) (jt (m:=1) e rfl ∎) Q q) k)
theorem SG:∀ws n Q,aI lW ws n Q->ws.length=1:=λ_ _ _ h=>dX h
theorem Yi:∀ws n Q,aI lW ws n Q->FI (cz Zb ws) n {nx:=λ_ n=>Q (.d .none) n,rt:=Q}:=dY λd n K k=>by
 show FI [↑d] n K;exact aY (b8 (nD rfl ∎) (λe Q q=>b8 (cX (g:=bY) (jt (m:=1) e rfl ∎)) (λ_ Q q=>cX (g:=fj) (jt (m:=2) e rfl ∎) Q q) q) k)
theorem OL:∀ws n Q,aI iX ws n Q->ws.length=1:=λ_ _ _ h=>dX h
theorem Xx:∀ws n Q,aI iX ws n Q->ET (cz Zb ws) n {nx:=λ_ n=>Q (.d .none) n,rt:=Q}:=dY λd n K k=>by
 show ET [↑d] n K;refine aA (jm (b:=!bQ "same" 4 d) (λQ q=>gE (λQ q=>aC (nD rfl ∎) q) q) (λe=>?_) λe=>?_)
 ·have e:bQ "same" 4 d=ai:=by simpa using e
  have:iX d=ai:=by unfold iX;rw[e];rfl
  rw[this]at k;exact aY (aJ k)
 ·have e:bQ "same" 4 d=ah:=by simpa using e
  have:iX d=(cv (eI 1 d)&&(cv (eI 2 d)&&fj (eI 3 d))):=by unfold iX;rw[e];rfl
  rw[this]at k;ac_rfl;exact aY (b8 (cX (g:=cv) (jt (m:=1) e rfl ∎)) (λ_ Q q=>b8 (cX (g:=cv) (jt (m:=2) e rfl ∎)) (λ_ Q q=>cX (g:=fj) (jt (m:=3) e rfl ∎) Q q) q) k)
theorem Pl:∀ws n Q,aI lU ws n Q->ws.length=1:=λ_ _ _ h=>dX h
theorem ZG:∀ws n Q,aI lU ws n Q->Ly (cz Zb ws) n {nx:=λ_ n=>Q (.d .none) n,rt:=Q}:=dY λd n K k=>by
 show Ly [↑d] n K;exact aY (b8 (nD rfl ∎) (λe Q q=>cX (g:=fj) (jt (m:=1) e rfl ∎) Q q) k)
theorem Va:∀ws n Q,aI cP ws n Q->ws.length=1:=λ_ _ _ h=>dX h
theorem RY:∀ws n Q,aI cP ws n Q->J0 (cz Zb ws) n {nx:=λ_ n=>Q (.d .none) n,rt:=Q}:=dY λd n K k=>by
 show J0 [↑d] n K;have v:∀g:Aa->Bool,∀Q:DQ,Q (.d (.bool (g d))) n->az (aI g) (ao ↥0 ak) [↑d] n Q:=λg=>cX (λQ q=>au rfl q);refine aA (jm (b:=gX d || (gV "take" d || gV "read" d)) (λQ q=>cn (λQ q=>aC (v _) q) (λ_ Q q=>cn (λQ q=>aC (v _) q) (λ_ Q q=>aC (v _) q) q) q) (λe=>?_) λe=>?_)
 ·have:cP d=ah:=by unfold cP;rw[e];rfl
  rw[this]at k;exact aY (aJ k)
 ·have:cP d=(lW d || (iX d || lU d)):=by unfold cP;rw[e];rfl
  rw[this]at k;ac_rfl;exact aY (mn (v _) (λ_ Q q=>mn (v _) (λ_ Q q=>v _ Q q) q) k)
theorem YJ:∀ws n Q,aI jc ws n Q->ws.length=1:=λ_ _ _ h=>dX h
theorem Mb:∀ws n Q,aI jc ws n Q->Lf (cz Zb ws) n {nx:=λ_ n=>Q (.d .none) n,rt:=Q}:=dY λd n K k=>by
 show Lf [↑d] n K;cases d with
 |tuple ds=>
  refine aY (b8 (a:=ah) (λQ q=>lj rfl q) (λ_ Q q=>b8 (a:=decide ((ds.length:Int)<=8)) (b:=ds.all cP) (λQ q=>av (fG rfl (aJ q))) (λ_ Q q=>?_) q) (b:=decide ((ds.length:Int)<=8)&&ds.all cP) k);exact aZ (bf (gY (λQ q=>au rfl q) (sL cP ds q)))
 |_=>exact aY (b8 (a:=ai) (b:=ai) (λQ q=>show bq "tuple" ↥0 [↑_] n Q from q) (λz=>nomatch z) k)
theorem Ul:∀ws n Q,aI gS ws n Q->ws.length=1:=λ_ _ _ h=>dX h
theorem V1:∀ws n Q,aI gS ws n Q->FG (cz Zb ws) n {nx:=λ_ n=>Q (.d .none) n,rt:=Q}:=dY λd n K k=>by
 show FG [↑d] n K;cases d with
 |tuple ds=>
  refine aY (b8 (a:=ah) (b:=gS (.tuple ds)) (λQ q=>lj rfl q) (λ_ Q q=>?_) k);rcases ds with _|⟨a,_|⟨b,_|⟨c,r⟩⟩⟩
  ·exact b8 (a:=ai) (b:=ai) (λQ q=>av (fG rfl (aJ q))) (λz=>nomatch z) q
  ·exact b8 (a:=ai) (b:=ai) (λQ q=>av (fG rfl (aJ q))) (λz=>nomatch z) q
  ·exact b8 (a:=ah) (b:=fF a&&jc b) (λQ q=>av (fG rfl (aJ q))) (λ_ Q q=>b8 (cX (g:=fF) (λQ q=>av (au rfl (aJ (gO q))))) (λ_ Q q=>cX (g:=jc) (λQ q=>av (au rfl (aJ (gj q)))) Q q) q) q
  ·refine b8 (a:=ai) (b:=ai) (λQ q=>av (fG rfl (aJ ?_))) (λz=>nomatch z) q;show Q (.d (.bool (decide (((a::b::c::r).length:Int)=2)))) n;rw[decide_eq_false (by simp only[Am];omega)];exact q
 |_=>exact aY (b8 (a:=ai) (b:=ai) (λQ q=>show bq "tuple" ↥0 [↑_] n Q from q) (λz=>nomatch z) k)
section
variable{δ:Sl}{n:Int}{Q:DQ}{K:DEnds}{W V:aL}{i j:Nat}{ds:List Aa}
theorem pG(hw:∀Q:DQ,Q (.d d) n->w δ n Q):∀Q:DQ,Q (.d (.bool (fq T d))) n->bq T w δ n Q:=λQ q=>hw _ q
end
theorem IT:∀(ds acc:List Aa)(x y:Option SV),(∀d∈ds,∃s,d=.str s)->(∀bs:List Bool,bs.all id=gc ds->Q (acc++bs.map .bool) n)->
  cM ⇑1021 aQ (w2 ↥0 ↥1 eV) Q (gk ds (ds.drop 1)) acc [x,y] n
 |[],acc,x,y,_,q=>by
  have:=q [] rfl;rw[Bo,A5]at this;exact this
 |[_],acc,x,y,_,q=>by
  have:=q [] rfl;rw[Bo,A5]at this;exact this
 |a::b::r,acc,x,y,h,q=>by
  obtain⟨s,rfl⟩:=h a Ae;obtain⟨t,rfl⟩:=h b (Af _ Ae);show cM _ _ _ Q (.tuple [.str s,.str t]::gk (.str t::r) ((.str t::r).drop 1)) acc [x,y] n;refine⟨rfl,?_⟩;dsimp only[bP,aF,cq,Aw,aQ];grind;refine av (au rfl (au rfl ?_));show cM _ _ _ Q (gk (.str t::r) ((.str t::r).drop 1)) (acc++[.bool (decide (s.cps.toList < t.cps.toList))]) [↑(.str s),↑(.str t)] n;refine IT (.str t::r) _ _ _ (λd hd=>h d (Af _ hd)) λbs hb=>?_;have:=q (decide (s.cps.toList < t.cps.toList)::bs) (by
   show(decide (s.cps.toList < t.cps.toList)&&bs.all id)=(decide ((kG (.str s)).cps.toList < (kG (.str t)).cps.toList)&&gc (.str t::r));rw[hb];rfl)
  rw[A3]at this;rw[A9];exact this
theorem TC{ds:List Aa}(h:ds.all (aO k)=ah):∀d∈ds,∃s,d=.str s:=λd hd=>by
 have:=Be.mp h d hd;cases d with
 |str s=>exact⟨s,rfl⟩
 |_=>cases this
theorem Tx{bs:List Bool}(k:Q (.d (.bool (bs.all id))) n):bu [.d (.list (bs.map .bool))] n Q:=by
 show match fe (bs.map .bool)with|some bs=>Q (.d (.bool (bs.all id))) n|none=>False
 have:fe (bs.map PyData.bool)=ae bs:=by
  have:=mh (λb:Bool=>b) bs;simpa using this
 rw[this];exact k
theorem OP:∀ws n Q,aI fF ws n Q->ws.length=1:=λ_ _ _ h=>dX h
theorem RQ:∀ws n Q,aI fF ws n Q->KZ (cz Zb ws) n {nx:=λ_ n=>Q (.d .none) n,rt:=Q}:=dY λd n K k=>by
 show KZ [↑d] n K;cases d with
 |tuple ds=>
  have k:K.rt (.d (.bool (decide ((ds.length:Int)<=4)&&(ds.all (aO 4)&&gc ds)))) n:=k;refine aA (jm (b:=decide ((4:Int) < (ds.length:Int))) (λQ q=>cn (a:=ai) (λQ q=>gE (k:=ah) (λQ q=>aC (λQ q=>lj rfl q) q) q) (λ_ Q q=>aC (λQ q=>av (fG rfl (aJ q))) q) (by rw[Bool.false_or];exact q)) (λe=>?_) λe=>?_)
  ·have e:=of_decide_eq_true e;rw[decide_eq_false ⋯,E2]at k;exact aY (aJ k)
  ·have e:=of_decide_eq_false e;rw[decide_eq_true ⋯,Cm]at k;ac_rfl;refine aA (jm (b:=!ds.all (aO 4)) (λQ q=>gE (λQ q=>aC (λQ q=>aZ (bf (gY (λQ q=>au rfl q) (sL (aO 4) ds q)))) q) q) (λe2=>?_) λe2=>?_)
   ·have e2:ds.all (aO 4)=ai:=by simpa using e2
    rw[e2,E2]at k;exact aY (aJ k)
   ·have e2:ds.all (aO 4)=ah:=by simpa using e2
    rw[e2,Cm]at k;ac_rfl;refine aY (aZ (bf (show zI _ _ _ _ _ from au rfl ?_)));have step:∀Q:DQ,Q ‹(ds.drop 1)› n->cu ↥0 (cg ⇑1) cJ [↑(.tuple ds)] n Q:=λQ q=>by
     unfold cu cJ cg;refine au rfl (aJ ?_);show Q ‹(bI ds (ae ((1:Nat):Int)) af)› n;have:bI ds (ae ((1:Nat):Int)) af=ds.drop 1:=by
      cases ds with
      |nil=>rfl
      |cons a r=>
       unfold bI;rw[HT.sIx_nat];show((a::r).drop (min 1 (r.length+1))).take (r.length+1-min 1 (r.length+1))=_;rw[Nat.min_eq_left ⋯];exact List.take_of_length_le (by simp)
     rw[this];exact q
    refine step _ (An (by rw[List.length_drop];omega) ?_);refine IT ds [] _ _ (TC e2) λbs hb=>?_;rw[Bz];exact Tx (by rw[hb];exact k)
 |_=>exact aA (jm (b:=ah) (λQ q=>cn (a:=ah) (b:=ah) (λQ q=>gE (k:=ai) (λQ q=>aC (λQ q=>q) q) q) (λz=>nomatch z) q) (λ_=>aY (aJ k)) λz=>nomatch z)
section
variable{δ:Sl}{n:Int}{i:Nat}{ds:List Aa}
theorem jT(e:δ[i]?=ae (↑(.tuple ds))):∀Q:Bool->Int->Prop,Q ai n->bw (cT (bq "tuple" (aj i))) δ n Q:=λQ q=>gE (k:=ah) (λQ q=>aC (λQ q=>lj e q) q) q
end
structure Lin{α:Type}(lt:α->α->Bool):Prop where
 asym:∀a b,lt a b=ah->lt b a=ai
 ntr:∀a b c,lt b a=ai->lt c b=ai->lt c a=ai
 tot:∀a b,lt a b=ai->lt b a=ai->a=b
section
variable{α:Type}{lt:α->α->Bool}
theorem Lin.tr1(L:Lin lt)(h1:lt a b=ah)(h2:lt c b=ai):lt a c=ah:=by
 cases e:lt a c with
 |true=>rfl
 |false=>have:=L.ntr b c a h2 e;rw[h1]at this;cases this
variable[DecidableEq α]
end
abbrev Vl:=Sum Int Str
def rK:Vl->Vl->Bool
 |.inl i,.inl j=>decide (i < j)
 |.inl _,.inr _=>ah
 |.inr _,.inl _=>ai
 |.inr x,.inr y=>decide (x.cps.toList < y.cps.toList)
theorem Sd{x y:Str}(h:x.cps.toList=y.cps.toList):x=y:=by
 cases x;cases y
 congr
 exact Array.toList_inj.mp h
theorem vlin:Lin rK where
 asym:=λa b h=>by
  cases a<;>cases b<;>simp only[rK,decide_eq_true_eq,decide_eq_false_iff_not,Cb]at h ⊢
  ·omega
  ·exact KS.lt_asym' _ _ h
 ntr:=λa b c h g=>by
  cases a<;>cases b<;>cases c<;>simp only[rK,decide_eq_false_iff_not,Bool.true_eq_false]at h g ⊢
  ·omega
  ·exact λz=>absurd z (Ge.mpr (List.le_trans (Ge.mp h) (Ge.mp g)))
 tot:=λa b h g=>by
  cases a<;>cases b<;>simp only[rK,decide_eq_false_iff_not,Bool.true_eq_false]at h g
  ·congr 1;omega
  ·congr 1
   exact Sd (List.le_antisymm (Ge.mp g) (Ge.mp h))
theorem Rp(x y:Str):(x==y)=decide (x=y):=by
 by_cases h:x=y
 ·subst h;simp
 ·rw[decide_eq_false h];exact beq_eq_false_iff_ne.mpr h
def qd(x y:Str):Bool:=decide (x.cps.toList < y.cps.toList)
theorem slin:Lin qd where
 asym:=λa b h=>vlin.asym (.inr a) (.inr b) h
 ntr:=λa b c h g=>vlin.ntr (.inr a) (.inr b) (.inr c) h g
 tot:=λa b h g=>Sum.inr.inj (vlin.tot (.inr a) (.inr b) h g)
theorem EB:∀ks:List Str,gc (ks.map .str)=ah↔ks.Pairwise λa b=>qd a b=ah
 |[]=>⟨λ_=>.nil,λ_=>rfl⟩
 |[_]=>⟨λ_=>G9 _ _,λ_=>rfl⟩
 |a::b::r=>by
  have ih:=EB (b::r);have e:gc ((a::b::r).map .str)=(qd a b&&gc ((b::r).map .str)):=rfl;rw[e,Ak,ih,List.pairwise_cons (a:=a)];refine⟨λh=>⟨λc hc=>?_,h.2⟩,λh=>⟨h.1 b Ae,h.2⟩⟩;rcases Aq.mp hc with rfl|hc
  ·exact h.1
  ·exact slin.tr1 h.1 (slin.asym _ _ ((List.pairwise_cons.mp h.2).1 c hc))
theorem FO:∀a b:List Str,D0 (a.map .str) (b.map .str)=decide (a=b)
 |[],[]=>by simp[D0]
 |[],_::_=>by simp[D0]
 |_::_,[]=>by simp[D0]
 |x::a,y::b=>by
  rw[A3,A3,D0,FO a b,Bp,Rp];by_cases h1:x=y<;>by_cases h2:a=b<;>simp[h1,h2]
theorem qL:∀{ds:List Aa},(∀d∈ds,∃s,d=.str s)->∃ks:List Str,ds=ks.map .str
 |[],_=>⟨[],rfl⟩
 |d::r,h=>by
  obtain⟨s,rfl⟩:=h d Ae;obtain⟨ks,rfl⟩:=qL λx hx=>h x (Af _ hx);exact⟨s::ks,rfl⟩
theorem zV(h:aO k (.str s)=ah):(s.length:Int)<=k:=by
 unfold aO at h;simp only[Ak,decide_eq_true_eq]at h;exact h.2.1
theorem Th.mem(h:Th L k (.tuple ds)):∀d∈ds,Th L (k-1) d:=by
 cases h with
 |tuple h1 h2=>exact h2
abbrev Zg:List Str:=["_law_tape_here"]
theorem SN:bS kH DK Zg:=λws n Q h=>by
 obtain⟨rfl,hn,k⟩:=h;show DK [ae (.w .tp)] n _;refine aY (av (bf (An ∎ ?_)));dsimp only;refine iV (m:=8) rfl ⋯ ∎ ∎ λr h0 h1=>oM (ds:=[.str "a",.int 0,.str "a",.int 1,.str "ab",.str "go",.int 99,.int 0]) h0 h1 λd hd=>k d ?_;simp only[Aq,Av,or_false]at hd;rcases hd with rfl|rfl|rfl|rfl|rfl|rfl|rfl|rfl<;>simp[rY]
theorem SA:bS nN LA Zg:=λws n Q h=>by
 obtain⟨rfl,hn,k⟩:=h;show LA [ae (.w .tp)] n _;refine aY (av (bf (An ∎ ?_)));dsimp only;refine iV (m:=7) rfl ⋯ ∎ ∎ λr h0 h1=>oM (ds:=[.int 1,.int 2,.int 2,.int 2,.int 1,.int 3,.int 4]) h0 h1 λd hd=>?_;simp only[Aq,Av,or_false]at hd;rcases hd with rfl|rfl|rfl|rfl|rfl|rfl|rfl
 ·exact k 1 ∎ ∎
 ·exact k 2 ∎ ∎
 ·exact k 2 ∎ ∎
 ·exact k 2 ∎ ∎
 ·exact k 1 ∎ ∎
 ·exact k 3 ∎ ∎
 ·exact k 4 ∎ ∎
theorem GG(e:δ[0]?=ae (ae (.w .tp)))(hn:n < 2 ^ 39)(k:∀m:Nat,1<=m->m<=4->c6 g W K (cO 0 m) δ (n+1)):bj (dF (az nN (ao ↥0 ak))) g W δ n K:=by
 unfold bj dF;refine aW (au e (An rfl ⟨hn,λm h1 h4=>?_⟩));refine An ⟨by omega,by omega⟩ ?_;rw[B6];exact k m h1 h4
theorem xP{rest:Sl}(g)(hno:∀(f:Fe) (n:Int) (Q':Bool->Int->Prop),g f=af->Q' ai n->c (↑f.d::rest) n Q')
  (hyes:∀(f:Fe)(n:Int)(Q':Bool->Int->Prop)(y:Aa),g f=ae y->Q' ah n->c (↑f.d::rest) n Q') (hw:∀(f:Fe)(n:Int)(Q':DQ)(y:Aa),g f=ae y->Q' (.d y) n->w (↑f.d::rest) n Q'):
  ∀(fs:List Fe)(acc:List Aa)(x:Option SV)(n:Int),Q (acc++fs.filterMap g) n->cM (aF 0) c w Q (fs.map Fe.d) acc (x::rest) n
 |[],acc,x,n,q=>by
  rw[List.filterMap_nil,A5]at q;exact q
 |f::r,acc,x,n,q=>by
  rw[A3];simp only[cM,aF,Br];cases e:g f with
  |none=>
   refine hno f n _ e ?_;rw[if_neg Al];refine xP g hno hyes hw r acc _ n ?_;rw[List.filterMap_cons_none e]at q;exact q
  |some y=>
   refine hyes f n _ y e ?_;grind;refine hw f n _ y e ?_;refine xP g hno hyes hw r (acc++[y]) _ n ?_;rw[List.filterMap_cons_some e]at q;rw[A9];exact q
def j9(o:Option Str):Option Aa:=o.map .str
theorem MZ(g)(fs:List Fe):fs.filterMap (λf=>j9 (g f))=(fs.filterMap g).map .str:=by
 rw[List.map_filterMap];rfl
theorem QQ(f:Fe):b7 "bind" (.str f.hd)=f.bd.isSome:=by
 cases f with
 |any=>exact(show b7 "bind" (.str "any")=ai by decide +kernel)
 |word=>exact(show b7 "bind" (.str "word")=ai by decide +kernel)
 |num=>exact(show b7 "bind" (.str "number")=ai by decide +kernel)
 |isv _=>exact(show b7 "bind" (.str "is")=ai by decide +kernel)
 |bind _=>exact(show b7 "bind" (.str "bind")=ah by decide +kernel)
 |as _=>exact(show b7 "bind" (.str "as")=ai by decide +kernel)
 |nx _=>exact(show b7 "bind" (.str "next")=ai by decide +kernel)
theorem P8(f:Fe):bG (.str f.hd) [.str "as",.str "next"]=f.us.isSome:=by
 cases f with
 |any=>exact(show bG (.str "any") [.str "as",.str "next"]=ai by decide +kernel)
 |word=>exact(show bG (.str "word") [.str "as",.str "next"]=ai by decide +kernel)
 |num=>exact(show bG (.str "number") [.str "as",.str "next"]=ai by decide +kernel)
 |isv _=>exact(show bG (.str "is") [.str "as",.str "next"]=ai by decide +kernel)
 |bind _=>exact(show bG (.str "bind") [.str "as",.str "next"]=ai by decide +kernel)
 |as _=>exact(show bG (.str "as") [.str "as",.str "next"]=ah by decide +kernel)
 |nx _=>exact(show bG (.str "next") [.str "as",.str "next"]=ah by decide +kernel)
theorem Mm{f:Fe}(h:f.bd=ae k):f.d=.tuple [.str f.hd,.str k]:=by
 cases f<;>cases h;rfl
theorem QJ{f:Fe}(h:f.us=ae k):f.d=.tuple [.str f.hd,.str k]:=by
 cases f<;>cases h<;>rfl
theorem GZ(h:j9 o=ae y):∃k,o=ae k/\y=.str k:=by
 cases o with
 |none=>cases h
 |some k=>cases h;exact⟨k,rfl,rfl⟩
theorem NN(h:j9 o=af):o=af:=by
 cases o with
 |none=>rfl
 |some k=>cases h
theorem oG(h:cQ fs):∀k∈a9 fs,eu k:=λk hk=>by
 obtain⟨f,hf,e⟩:=List.mem_filterMap.mp hk;have:=h.2 f hf;cases f<;>cases e;exact this
theorem oW(h:cQ fs):(a9 fs).length<=4:=A4 (List.length_filterMap_le _ _) h.1
theorem Uu(e:δ[0]?=ae (↑(.tuple [a,b])))(k:Q (.d b) n):w2 ↥0 (wC (.int 1)) aD δ n Q:=gw (r:=[]) e k
theorem EV{f:Fe}{rest:Sl}(k:Q' f.bd.isSome n):cT (w2 (w2 ↥0 (wC (.int 0)) aD) ⇑"bind" bA) (↑f.d::rest) n Q':=by
 refine uC (i:=0) (a:=.str f.hd) (r:=f.tl) rfl ?_;show Q' (b7 "bind" (.str f.hd)) n;rw[QQ];exact k
theorem VR(fs:List Fe)(n)(k:Q ((a9 fs).map .str) n):
  cM (aF 0) (cT (w2 (w2 ↥0 (wC (.int 0)) aD) ⇑"bind" bA)) (w2 ↥0 (wC (.int 1)) aD) Q (fs.map Fe.d) [] [af] n:=by
 refine xP (λf=>j9 f.bd) (λf n Q' e q=>EV ?_) (λf n Q' y e q=>EV ?_) (λf n Q' y e q=>?_) fs [] af n ?_
 ·rw[NN e];exact q
 ·obtain⟨x,e1,_⟩:=GZ e;rw[e1];exact q
 ·obtain⟨x,e1,rfl⟩:=GZ e;exact Uu (by rw[Mm e1];rfl) q
 ·rw[MZ];exact k
theorem i3(hw:∀Q:DQ,Q (.d (.str s)) n->w δ n Q)(e:bG (.str s) (hs.map .str)=b)(q:Q b n):cT (dH hs w) δ n Q:=hw _ (An rfl (by show Q (bG (.str s) (hs.map .str)) n;rw[e];exact q))
theorem Kc{a:Ac}(h:cQ a.fs):(∀k∈a.bs,eu k)/\a.bs.length<=4:=by
 cases a with
 |take fs=>exact⟨oG h,oW h⟩
 |read fs=>exact⟨oG h,oW h⟩
 |look fs b=>exact⟨oG h,oW h⟩
 |lay fs b=>exact⟨λk hk=>by simp[Ac.bs]at hk,by simp[Ac.bs]⟩
 |same f g b=>exact⟨λk hk=>by simp[Ac.bs]at hk,by simp[Ac.bs]⟩
 |go b=>exact⟨λk hk=>by simp[Ac.bs]at hk,by simp[Ac.bs]⟩
theorem v3:∀{ys ks:List Str},ys.Nodup->(∀k∈ys,k∈ks)->ys.length<=ks.length
 |[],_,_,_=>Bf _
 |y::ys,ks,h,hs=>by
  obtain⟨h1,h2⟩:=Fh.mp h;have hm:=hs y Ae;have:=v3 (ks:=ks.erase y) h2 λk hk=>(List.mem_erase_of_ne (λ(e:k=y)=>h1 (e▸hk))).mpr (hs k (Af _ hk));rw[List.length_erase_of_mem hm]at this;have:=List.length_pos_of_mem hm;rw[Am];omega
structure KnI(w:List Str)(dn:List Ac)(L:List Str):Prop where
 mem:∀k,k∈L↔k∈w++dn.flatMap Ac.bs
 len:L.length<=4+4*dn.length
 ok:∀k∈L,eu k
theorem KnI.first(h:w.length<=4)(ok:∀k∈w,eu k):KnI w [] w:=⟨λk=>by simp,by simpa using h,ok⟩
theorem KnI.skip(I:KnI w dn L)(e:a.bs=[]):KnI w (dn++[a]) L:=
 ⟨λk=>by rw[I.mem k,Cy];simp[e],by rw[Ah,As];have:=I.len;omega,I.ok⟩
theorem KnI.more(I:KnI w dn L)(h:∀k,k∈ys↔k∈a.bs)(hl:ys.length<=4)(ok:cQ a.fs):KnI w (dn++[a]) (L++ys):=
 ⟨λk=>by rw[Ax,I.mem k,h k,Cy,<-A9];simp[or_assoc],by rw[Ah,Ah,As];have:=I.len;omega,λk hk=>by
  rcases Ax.mp hk with z|z
  ·exact I.ok k z
  ·exact(Kc ok).1 k ((h k).mp z)⟩
theorem tF(h:v∈rY):kU v=ah:=by
 simp only[rY,Aq,Av,or_false]at h;rcases h with rfl|rfl|rfl|rfl|rfl|rfl<;>decide +kernel
theorem Mp(hv:fm v=ae a)(hl:a.length+b.length<=A6)(q:Q (.d (.list (a++b))) n):eA v (.ln b) n Q:=by
 unfold eA;rw[hv];exact⟨hl,q⟩
theorem Mq(e0:δ[0]?=ae (ae (.w .tp)))(h:n < 2 ^ 39)(k:∀v∈jV,Q (.d v) (n+1)):w2 (gp 0) (az cU (ao ↥0 (ao (wB iF (ao (gp 0) ak)) ak))) a8 δ n Q:=by
 have ht:∀(n:Int)(Q:DQ),Q (.ln jV) n->gp 0 δ n Q:=λn Q q=>by unfold gp;rw[e0];exact q
 exact av (ht _ _ (k8 (m:=7) e0 (λQ q=>aZ (ht _ _ q)) ⋯ ∎ ∎ λr h0 h1=>yC h0 h1 k))
theorem Qa(f:Fe)(r):a9 (f::r)=f.bd.toList++a9 r:=by cases f<;>rfl
theorem Vy(fs)(f:Fe):a9 (fs++[f])=a9 fs++f.bd.toList:=by
 unfold a9;rw[List.filterMap_append];cases f<;>rfl
theorem vn:∀{fs:List Fe}{ks:List Str}{f:Fe},rF ks fs->(∀k,f.us=ae k->k∈ks++a9 fs)->rF ks (fs++[f])
 |[],ks,f,_,h=>⟨λk hk=>by simpa[a9]using h k hk,trivial⟩
 |g::r,ks,f,h1,h2=>⟨h1.1,vn h1.2 λk hk=>by
  have:=h2 k hk;rw[Qa,<-A9]at this;exact this⟩
theorem uN{f:Aa}{ks:List Str}(h:f∈ks.map .str):∃s∈ks,f=.str s:=by
 obtain⟨s,hs,rfl⟩:=Bi.mp h;exact⟨s,hs,rfl⟩
def xx(kv:Wv)(ks:List Str)(n0:Int)(ds:List Aa)(δ:Sl)(n:Int):Prop:=∃(fs:List Fe)(x y z u:Option SV),δ=[ae (.w .tp),ae (.w kv),ae (.own (fs.map Fe.d)),ae (.own ((a9 fs).map .str)),x,y,z,u]/\1<=fs.length+ds.length/\fs.length+ds.length<=4/\(∀f∈fs,f.ok/\f.pt=ah)/\rF ks fs/\n+2*(ds.length:Int)<=n0+9
theorem Yb:bS zh Lw ["_law_tape_here","_law_known","_law_fields","_law_bound","_law_k","_law_way","_law_some","_law_name"]:=λws n0 Q h=>by
 obtain⟨ks,kv,rfl,hkv,hks,hok,hn0,k⟩:=h;show Lw [ae (.w .tp),ae (.w kv),af,af,af,af,af,af] n0 _;refine aA (mq ?_);ac_nf;refine aA (mq ?_);ac_nf;refine aA (GG rfl ⋯ λm h1 h4=>?_);refine eW (xx kv ks n0) (λδ n I=>?_) (λd r δ n N I kN=>?_) _ _ _ ⟨[],af,af,af,af,rfl,by rw[fE];simpa using h1,by rw[fE];simpa using h4,λf hf=>(by simp at hf),trivial,by rw[fE];omega⟩
 ·obtain⟨fs,x,y,z,u,rfl,hf1,hf,hfo,hr,hn⟩:=I;dsimp only;refine ic rfl ?_;ac_nf;refine ic rfl ?_;ac_nf;exact aY (dD (aZ (au rfl (lV (au rfl (An (show 2<=1000 by decide) (k fs n (by simpa using hf1) ⟨by simpa using hf,λf z=>(hfo f z).1⟩ (λf z=>(hfo f z).2) hr (by simpa using hn))))))))
 ·obtain⟨fs,x,y,z,u,rfl,hf1,hf,hfo,hr,hn⟩:=I;rw[Am]at hf1 hf hn;nofun;have hfl:(fs.map Fe.d).length < 1000000:=by rw[Ab];omega
  have hbl:(a9 fs).length<=4:=A4 (List.length_filterMap_le _ _) ⋯;have hbo:∀s∈ks++a9 fs,eu s:=λs hs=>(Ax.mp hs).elim (hok s) λz=>oG (fs:=fs) ⟨by omega,λf z=>(hfo f z).1⟩ s z;have nxt:∀(f:Fe)(n':Int)(y z u:Option SV)(B:List Aa),f.ok/\f.pt=ah->(∀k,f.us=ae k->k∈ks++a9 fs)->n'<=n+2->B=(a9 fs).map .str++f.bd.toList.map .str->N [ae (.w .tp),ae (.w kv),ae (.own (fs.map Fe.d++[f.d])),ae (.own B),↑d,y,z,u] n':=λf n' y z u B fo fu hn' hB=>
   kN _ _ ⟨fs++[f],↑d,y,z,u,by rw[hB,Bc,Vy,Bc];rfl,by rw[Ah,As];omega,by rw[Ah,As];omega,λg hg=>(Ax.mp hg).elim (hfo g) λz=>by rw[Au]at z;subst z;exact fo,vn hr fu,by omega⟩
  have nxtN:∀(f:Fe)(n':Int)(y z u:Option SV),f.bd=af->f.ok/\f.pt=ah->(∀k,f.us=ae k->k∈ks++a9 fs)->n'<=n+2->N [ae (.w .tp),ae (.w kv),ae (.own (fs.map Fe.d++[f.d])),ae (.own ((a9 fs).map .str)),↑d,y,z,u] n':=λf n' y z u fb fo fu hn'=>
   nxt f n' y z u _ fo fu hn' (by rw[fb];exact(A5 _).symm)
  refine aA (yV (m:=9) rfl ⋯ ∎ ∎ λw w0 w1=>?_);ac_nf;refine aA (dz (x:=.list (ks.map .str++(a9 fs).map .str)) (λQ q=>av (au rfl (kF rfl (Mp hkv (wq (by rw[Ab];omega) (by rw[Ab];omega)) q)))) ?_);ac_nf;refine mE rfl (λhw=>?_) (λhw=>?_)
  ·refine k9 rfl (dD (aJ (aW (au rfl (An rfl ⟨by omega,λv hv=>?_⟩)))));exact An (show 2<=1000 by decide) (An hfl (nxtN (.isv v) _ _ _ _ rfl ⟨tF hv,rfl⟩ (λk hk=>by cases hk) ⋯))
  ·refine mE rfl (λhw6=>?_) (λhw6=>?_)
   ·refine k9 rfl (av (bf (An ∎ (An ∎ (An ∎ (An ∎ ?_))))));dsimp only;refine av (au rfl (aJ ?_));dsimp only[dN];refine jA (ds:=[.tuple [.str "any"],.tuple [.str "word"],.tuple [.str "number"]]) (r:=w-3) ⋯ (show w-3 < 3 by omega) λf hf'=>?_;simp only[Aq,Av,or_false]at hf';rcases hf' with rfl|rfl|rfl
    ·exact An hfl (nxtN .any _ _ _ _ rfl ⟨trivial,rfl⟩ (λk hk=>by cases hk) ⋯)
    ·exact An hfl (nxtN .word _ _ _ _ rfl ⟨trivial,rfl⟩ (λk hk=>by cases hk) ⋯)
    ·exact An hfl (nxtN .num _ _ _ _ rfl ⟨trivial,rfl⟩ (λk hk=>by cases hk) ⋯)
   ·have bind:∀(K:DEnds)(L:List Aa),(∀δ n,N δ n->K.nx δ n)->aq (aT 7 (w2 ⇑1015 ⇑1010 a8)) (aq (br 3 ↥7) (br 2 (aB (ao ⇑"bind" (ao ↥7 ak)))))
      [ae (.w .tp),ae (.w kv),ae (.own (fs.map Fe.d)),ae (.own ((a9 fs).map .str)),↑d,↑(.int w),↑(.list L),u] (n+1) K:=λK L hK=>by
     refine aA (show w2 _ _ _ _ _ _ from av (bf (An ∎ ?_)));dsimp only;refine iV (m:=4) rfl ⋯ ∎ ∎ λr r0 r1=>jA (ds:=[.str "n",.str "nm",.str "go",.str "m"]) r0 r1 λf hf'=>?_;have:∃s:Str,f=.str s/\eu s:=by
      simp only[Aq,Av,or_false]at hf';rcases hf' with rfl|rfl|rfl|rfl<;>exact⟨_,rfl,by decide +kernel,by decide +kernel⟩
     obtain⟨s,rfl,so⟩:=this;ac_nf;refine aA (iD rfl (λQ q=>au rfl q) (by rw[Ab];omega) ?_);ac_nf;refine iD (x:=.tuple [.str "bind",.str s]) rfl (λQ q=>dD (aJ (au rfl (An (show 2<=1000 by decide) q)))) hfl (hK _ _ ?_);exact nxt (.bind s) (n+1+1) _ _ _ _ ⟨so,rfl⟩ (λk hk=>by cases hk) ⋯ rfl
    by_cases hw8:w < 8
    ·refine bo (λQ q=>ye (λQ q=>aC (k:=ah) (λQ q=>av (au rfl (aJ ?_))) q) q) (bind _ _ λ_ _ z=>z);show Q (.d (.bool (decide (w < 8)))) _;rw[decide_eq_true hw8];exact q
    ·have hmem:∀f∈ks.map A7++(a9 fs).map A7,∃s∈ks++a9 fs,f=.str s:=λf hf=>uN (by rw[Bc];exact hf);have hlen:(ks.map A7++(a9 fs).map A7).length<=2000:=by rw[Ah,Ab,Ab];omega
     generalize(ks.map A7++(a9 fs).map A7)=L at hmem hlen;cases L with
     |nil=>
      refine bo (λQ q=>oB (λQ q=>aC (k:=ai) (λQ q=>av (au rfl (aJ ?_))) q) (aC (k:=ah) (λQ q=>av (au rfl (bf (An (Bf _) q)))) q)) (bind _ _ λ_ _ z=>z);show Q (.d (.bool (decide (w < 8)))) _;rw[decide_eq_false hw8];exact q
     |cons a l=>
      refine aU (λQ q=>oB (λQ q=>aC (k:=ai) (λQ q=>av (au rfl (aJ ?_))) q) (aC (k:=ai) (λQ q=>av (au rfl (bf (An (Bf _) q)))) q)) ?_
      ·show Q (.d (.bool (decide (w < 8)))) _;rw[decide_eq_false hw8];exact q
      ·refine k9 rfl (dD (aJ (av (au rfl ?_))));refine k8 (m:=(a::l).length) rfl (λQ q=>aZ (au rfl q)) ⋯ (by rw[Am];omega) ⋯ λr r0 r1=>jA r0 r1 λf hf'=>?_;obtain⟨s,hs,rfl⟩:=hmem f hf';exact An (show 2<=1000 by decide) (An hfl (nxtN (.as s) _ _ _ _ rfl ⟨hbo s hs,rfl⟩ (λk hk=>by cases hk;exact hs) ⋯))
theorem GJ(h:v∈jV):iO v:=by
 simp only[jV,Aq,Av,or_false]at h;rcases h with rfl|rfl|rfl|rfl|rfl|rfl|rfl<;>first|exact .inl rfl|exact .inr ⟨_,rfl,by decide,by decide⟩
theorem Q8:bS nX JK Zg:=λws n Q h=>by
 obtain⟨rfl,hn,k⟩:=h;show JK [ae (.w .tp)] n _;exact aY (Mq rfl hn k)
theorem JE(e0:δ[0]?=ae (ae (.w .tp)))(h:n < 2 ^ 39)(k:∀v∈jV,Q (.d v) (n+1)):az nX (ao ↥0 ak) δ n Q:=aW (au e0 ⟨rfl,h,k⟩)
def AX(ks:List Str)(n0:Int)(ds:List Aa)(δ:Sl)(n:Int):Prop:=∃(fs:List Fe)(x y:Option SV),δ=[ae (.w .tp),ae (.w (.ln (ks.map .str))),ae (.own (fs.map Fe.d)),x,y]/\fs.length+ds.length<=4/\1<=fs.length+ds.length/\(∀f∈fs,f.ok/\f.tm=ah)/\rF ks fs/\n+2*(ds.length:Int)<=n0+9
theorem We:bS yT FV ["_law_tape_here","_law_known","_law_fields","_law_k","_law_way"]:=λws n0 Q h=>by
 obtain⟨ks,rfl,hks,hok,hn0,k⟩:=h;show FV [ae (.w .tp),ae (.w (.ln (ks.map .str))),af,af,af] n0 _;refine aA (mq ?_);ac_nf;refine aA (GG rfl ⋯ λm h1 h4=>?_);refine eW (AX ks n0) (λδ n I=>?_) (λd r δ n N I kN=>?_) _ _ _ ⟨[],af,af,rfl,by rw[fE];simpa using h4,by rw[fE];simpa using h1,λf hf=>(by simp at hf),trivial,by rw[fE];omega⟩
 ·obtain⟨fs,x,y,rfl,hf,hf1,hfo,hr,hn⟩:=I;dsimp only;refine ic rfl ?_;ac_nf;exact aY (aZ (au rfl (lV (k fs n (by simpa using hf1) ⟨by simpa using hf,λf z=>(hfo f z).1⟩ (λf z=>(hfo f z).2) hr (by simpa using hn)))))
 ·obtain⟨fs,x,y,rfl,hf,hf1,hfo,hr,hn⟩:=I;rw[Am]at hf hf1 hn;nofun;have hfl:(fs.map Fe.d).length < 1000000:=by rw[Ab];omega
  have nxt:∀(f:Fe)(n':Int)(y:Option SV),f.ok/\f.tm=ah->(∀k,f.us=ae k->k∈ks)->n'<=n+2->N [ae (.w .tp),ae (.w (.ln (ks.map .str))),ae (.own (fs.map Fe.d++[f.d])),↑d,y] n':=λf n' y fo fu hn'=>
   kN _ _ ⟨fs++[f],↑d,y,by rw[Bc];rfl,by rw[Ah,As];omega,by rw[Ah,As];omega,λg hg=>(Ax.mp hg).elim (hfo g) λz=>by rw[Au]at z;subst z;exact fo,vn hr λk hk=>Bx _ (fu k hk),by omega⟩
  refine aA (yV (m:=6) rfl ⋯ ∎ ∎ λw w0 w1=>?_);ac_nf;have isv:∀K:DEnds,(∀δ n,N δ n->K.nx δ n)->br 2 ⇑1007 [ae (.w .tp),ae (.w (.ln (ks.map .str))),ae (.own (fs.map Fe.d)),↑d,↑(.int w)] (n+1) K:=λK hK=>
   k9 rfl (dD (aJ (aW (au rfl (An rfl ⟨by omega,λv hv=>An (show 2<=1000 by decide) (An hfl (hK _ _ (nxt (.isv v) _ _ ⟨tF hv,rfl⟩ (λk hk=>by cases hk) ⋯)))⟩)))))
  by_cases hw3:w < 3
  ·refine bo (λQ q=>ye (λQ q=>aC (k:=ah) (λQ q=>av (au rfl (aJ ?_))) q) q) (isv _ λ_ _ z=>z);show Q (.d (.bool (decide (w < 3)))) _;rw[decide_eq_true hw3];exact q
  ·have ct3:∀Q:DQ,Q (.d (.bool ai)) (n+1)->w2 ↥4 (wC (.int 3)) eV [ae (.w .tp),ae (.w (.ln (ks.map .str))),ae (.own (fs.map Fe.d)),↑d,↑(.int w)] (n+1) Q:=λQ q=>av (au rfl (aJ (by
    show Q (.d (.bool (decide (w < 3)))) _;rw[decide_eq_false hw3];exact q)))
   cases ks with
   |nil=>exact bo (λQ q=>oB (λQ q=>aC (k:=ai) ct3 q) (aC (k:=ah) (λQ q=>av (au rfl (iU (jU q)))) q)) (isv _ λ_ _ z=>z)
   |cons a l=>
    refine aU (λQ q=>oB (λQ q=>aC (k:=ai) ct3 q) (aC (k:=ai) (λQ q=>av (au rfl (iU (jU q)))) q)) ?_;refine k9 rfl (dD (av (bf (An ∎ ?_))));dsimp only;refine av (au rfl (aJ ?_));dsimp only[dN];refine jA (ds:=[.str "as",.str "as",.str "next"]) (r:=w-3) ⋯ (show w-3 < 3 by omega) λf hf'=>?_;refine av (au rfl ?_);have hl:((a::l).map A7).length<=1000:=by rw[Ab];exact hks
    refine k8 (m:=((a::l).map A7).length) rfl (λQ q=>aZ (au rfl q)) ⋯ (by rw[Ab,Am];omega) ⋯ λr r0 r1=>yC r0 r1 λf' hf''=>?_;obtain⟨s,hs,rfl⟩:=uN hf'';simp only[Aq,Av,or_false]at hf';rcases hf' with rfl|rfl|rfl
    ·exact An (show 2<=1000 by decide) (An hfl (nxt (.as s) _ _ ⟨hok s hs,rfl⟩ (λk hk=>by cases hk;exact hs) ⋯))
    ·exact An (show 2<=1000 by decide) (An hfl (nxt (.as s) _ _ ⟨hok s hs,rfl⟩ (λk hk=>by cases hk;exact hs) ⋯))
    ·exact An (show 2<=1000 by decide) (An hfl (nxt (.nx s) _ _ ⟨hok s hs,rfl⟩ (λk hk=>by cases hk;exact hs) ⋯))
abbrev Zh:List Str:=["_law_tape_here","_law_known"]
theorem Vu:bS tZ Kg Zh:=λws n Q h=>by
 obtain⟨ks,rfl,hks,hok,hn0,k⟩:=h;show Kg [ae (.w .tp),ae (.w (.ln (ks.map .str)))] n _;have isv:∀n',n'<=n+1->aw ⇑1007 [ae (.w .tp),ae (.w (.ln (ks.map .str)))] n' {nx:=λ_ n=>Q (.d .none) n,rt:=Q}:=λn' hn'=>
  aY (dD (aJ (aW (au rfl (An rfl ⟨by omega,λv hv=>An (show 2<=1000 by decide) (k (.isv v) _ (tF hv) rfl (λk hk=>by cases hk) ⋯)⟩)))))
 cases ks with
 |nil=>exact aA (bo (λQ q=>ye (λQ q=>aC (k:=ah) (λQ q=>av (au rfl (iU (jU q)))) q) q) (isv n ⋯))
 |cons a l=>
  refine aA (iE (oB (λQ q=>aC (k:=ai) (λQ q=>av (au rfl (iU (jU q)))) q) ?_));refine av (iV (m:=2) rfl ⋯ ∎ ∎ λr r0 r1=>aJ (lS ?_));show if decide (r=0)=ah then _ else _
  by_cases h:r=0
  ·rw[if_pos (decide_eq_true h)];exact isv (n+1) ⋯
  ·rw[if_neg (by simpa using h)];ac_rfl;refine aY (dD (aJ (av (au rfl ?_))));have hl:((a::l).map A7).length<=1000:=by rw[Ab];exact hks
   refine k8 (m:=((a::l).map A7).length) rfl (λQ q=>aZ (au rfl q)) ⋯ (by rw[Ab,Am];omega) ⋯ λr r0 r1=>yC r0 r1 λf' hf''=>?_;obtain⟨s,hs,rfl⟩:=uN hf'';exact An (show 2<=1000 by decide) (k (.as s) _ (hok s hs) rfl (λk hk=>by cases hk;exact hs) ⋯)
theorem RG:bS oi KJ ["_law_tape_here","_law_known","_law_open_ones","_law_way","_law_block","_law_pattern_here","_law_bound"]:=λws n Q h=>by
 obtain⟨ks,os,wants,rfl,hks,hok,ho,ho',hop,hn0,k⟩:=h;show KJ [ae (.w .tp),ae (.w (.ln (ks.map .str))),↑(.list (os.map λb=>.int (b:Nat))),af,af,af,af] n _;refine aA (yV (m:=12) rfl ⋯ ∎ ∎ λw w0 w1=>?_);ac_nf;refine aA (mE rfl (λhw=>?_) (λhw=>?_))
 ·refine aY (dD (sP (aJ (dZ (au rfl (au rfl (Eb ks ⟨rfl,hks,hok,by omega,λfs n' hf1 hfs htm hrf hn'=>?_⟩)))))));refine JE rfl ⋯ λv hv=>?_;exact An (show 3<=1000 by decide) (iU (An (show 2<=1000 by decide) (k (.lay fs v) _ ⟨hfs,htm,GJ hv,hf1⟩ ⟨hrf,λb hb=>by cases hb⟩ ⋯)))
 ac_rfl;refine aA (show aT 4 _ _ _ _ from av (au rfl ?_));refine k8 (m:=(os.map λb:Nat=>PyData.int (b:Nat)).length) rfl (λQ q=>aZ (au rfl q)) ⋯ (by rw[Ab];omega) (by rw[Ab];omega) λr r0 r1=>jA r0 r1 λb hb=>?_;obtain⟨b,hbo,rfl⟩:=Bi.mp hb;have hto:=hop b hbo;ac_nf;refine aA (oA rfl (λh10=>?_) (λh10=>?_))
 ·refine aY (dD (ZL (aJ (dZ (au rfl (au rfl (Eb ks ⟨rfl,hks,hok,by omega,λf n' fo fb fu hn'=>?_⟩)))))));refine dZ (au rfl (au rfl (Eb ks ⟨rfl,hks,hok,by omega,λg n'' go gb gu hn''=>?_⟩)));refine au rfl (An (show 4<=1000 by decide) (iU (An (show 2<=1000 by decide) (k (.same f g b) _ ⟨⟨show 2<=4 by decide,λe he=>?_⟩,fb,gb⟩ ⟨⟨fu,λk hk=>Bx _ (gu k hk),trivial⟩,λb' hb'=>by cases hb';exact hto⟩ ⋯))));simp only[Ac.fs,Aq,Av,or_false]at he;rcases he with rfl|rfl
  ·exact fo
  ·exact go
 ac_rfl;refine aA (oA rfl (λh11=>?_) (λh11=>?_))
 ·exact aY (dD (dD (aJ (au rfl (An (show 2<=1000 by decide) (iU (An (show 2<=1000 by decide) (k (.go b) _ ⟨⟨show 0<=4 by decide,λe he=>by simp[Ac.fs]at he⟩,trivial⟩ ⟨trivial,λb' hb'=>by cases hb';exact hto⟩ ⋯))))))))
 ac_rfl;refine aA ?_;unfold g9;refine dZ (au rfl (au rfl (Eb ks ⟨.ln (ks.map .str),rfl,rfl,hks,hok,by omega,λfs n' hf1 hfs hpt hrf hn'=>?_⟩)));refine An rfl ?_;dsimp only[bP,cq,aF,Aw];refine aA (xt rfl (λh7=>?_) (λh7=>?_))
 ·exact aY (dD (sP (aJ (au rfl (au rfl (An (show 3<=1000 by decide) (au rfl (An (show 2<=1000 by decide) (k (.look fs b) _ ⟨hfs,hf1,hpt⟩ ⟨hrf,λb' hb'=>by cases hb';exact hto⟩ ⋯)))))))))
 ac_rfl;refine aY (dD (dD (av (bf (An ∎ ?_)))));dsimp only;refine av (au rfl (aJ ?_));dsimp only[dN];refine jA (ds:=[.str "take",.str "take",.str "take",.str "read"]) (r:=w-4) ⋯ (show w-4 < 4 by omega) λf hf'=>?_;simp only[Aq,Av,or_false]at hf';rcases hf' with rfl|rfl|rfl|rfl
 ·exact au rfl (An (show 2<=1000 by decide) (au rfl (An (show 2<=1000 by decide) (k (.take fs) _ ⟨hfs,hf1,hpt⟩ ⟨hrf,λb' hb'=>by cases hb'⟩ ⋯))))
 ·exact au rfl (An (show 2<=1000 by decide) (au rfl (An (show 2<=1000 by decide) (k (.take fs) _ ⟨hfs,hf1,hpt⟩ ⟨hrf,λb' hb'=>by cases hb'⟩ ⋯))))
 ·exact au rfl (An (show 2<=1000 by decide) (au rfl (An (show 2<=1000 by decide) (k (.take fs) _ ⟨hfs,hf1,hpt⟩ ⟨hrf,λb' hb'=>by cases hb'⟩ ⋯))))
 ·exact au rfl (An (show 2<=1000 by decide) (au rfl (An (show 2<=1000 by decide) (k (.read fs) _ ⟨hfs,hf1,hpt⟩ ⟨hrf,λb' hb'=>by cases hb'⟩ ⋯))))
def iW:List (List Str):=[[],["n"],["go","n"],["nm"]]
theorem kB(x):∀hs:List Str,bG (.str x) (hs.map .str)=decide (x∈hs)
 |[]=>rfl
 |y::r=>by
  rw[A3];show(yd (.str y) (.str x) || bG (.str x) (r.map .str))=_;rw[kB x r];show(decide (y=x) || decide (x∈r))=_;by_cases e:y=x
  ·subst e;simp
  ·have:¬x=y:=λz=>e z.symm;simp[e,this]
theorem Y4(h:w∈iW):w.length<=4/\(∀k∈w,eu k)/\w.Nodup/\vA w:=by
 have key:∀w∈iW,w.length<=4/\(∀k∈w,aO 4 (.str k)=ah/\Bw k=ah)/\w.Nodup/\w.Pairwise λa b=>¬b.cps.toList < a.cps.toList:=by decide +kernel
 exact key w h
theorem Pk(ss ks:List Str)(k:Q ((ss.map A7).filter λx=>!bG x (ks.map .str)) n):
  cM (aF 0) (cT (w2 ↥0 ↥1 (d6 ah))) ↥0 Q (ss.map .str) [] [af,ae (.w (.ln (ks.map .str)))] n:=by
 refine uy (λd=>∃s:Str,d=.str s) (λx=>!bG x (ks.map .str)) id (λd n Q' hd q=>?_) (λd n Q' hd q=>au rfl q) _ [] af n (λd hd=>?_) ?_
 ·obtain⟨s,rfl⟩:=hd;exact aC (k:=!bG (.str s) (ks.map .str)) (λQ q=>av (au rfl (au rfl (An rfl ⟨oO ks,q⟩)))) q
 ·obtain⟨s,_,rfl⟩:=Bi.mp hd;exact⟨s,rfl⟩
 ·rw[Bz,Fy];exact k
theorem RF(ss ks:List Str):((ss.map A7).filter λx=>!bG x (ks.map .str)).isEmpty=decide (∀k∈ss,k∈ks):=by
 rw[Fj,List.isEmpty_iff,List.filter_eq_nil_iff,decide_eq_true_iff]
 constructor
 ·intro h k hk;have:=h (.str k) (Bi.mpr ⟨k,hk,rfl⟩);rw[kB]at this;simpa using this
 ·intro h d hd;obtain⟨k,hk,rfl⟩:=Bi.mp hd;rw[kB,decide_eq_true (h k hk)];simp
def uk(ws:List (List Str))(ks:List Str):Aa->Bool
 |.int j=>decide (∀k∈ws.getD j.toNat [],k∈ks)
 |_=>ai
def kY(ws:List (List Str))(ks:List Str):List Nat:=(Ce ws.length).filter λb=>decide (∀k∈ws.getD b [],k∈ks)
theorem ME(ws:List (List Str))(ks):(cO 0 ws.length).filter (uk ws ks)=(kY ws ks).map λb=>.int (b:Nat):=by
 unfold cO kY;rw[List.filter_map];have e:(λi:Nat=>PyData.int (0+(i:Int)))=λb=>.int (b:Nat):=funext λi=>by rw[Int.zero_add]
 rw[e];rfl
theorem Ny(ws:List (List Str))(ks:List Str)(k:Q ((kY ws ks).map λb=>.int (b:Nat)) n):
  cM (aF 0) ⇑1002 ↥0 Q (cO 0 ws.length) [] [af,ae (.w (.ln (ks.map .str))),↑(.list (ws.map cW))] n:=by
 refine uy (λd=>∃j:Nat,j < ws.length/\d=.int j) (uk ws ks) id (λd n Q' hd q=>?_) (λd n Q' hd q=>au rfl q) _ [] af n (λd hd=>?_) ?_
 ·obtain⟨j,hj,rfl⟩:=hd;have hg:(ws.map cW)[j]?=ae (.tuple (ws[j].map .str)):=by rw[Bh,Ar hj];rfl
  refine aC (k:=uk ws ks (.int j)) (λQ q=>av (bf (gY (ds:=ws[j].map .str) (λQ q=>av (au rfl (au rfl ?_))) (Pk ws[j] ks (iU ?_))))) q
  ·show(match cF (ws.map cW) (j:Int)with|some d=>Q (.d d) n|none=>False);rw[fX hg];exact q
  ·have eo:uk ws ks (.int j)=((ws[j].map A7).filter λx=>!bG x (ks.map .str)).isEmpty:=by
    rw[RF];show decide (∀k∈ws.getD (j:Int).toNat [],k∈ks)=_;rw[B6,List.getD_eq_getElem?_getD,Ar hj,Option.getD_some]
   rw[eo]at q;exact q
 ·unfold cO at hd;obtain⟨j,hj,rfl⟩:=Bi.mp hd;exact⟨j,Dh.mp hj,by rw[Int.zero_add]⟩
 ·rw[Bz,Fy,ME];exact k
theorem WO(h:ws=[]::w0):0 < (kY ws ks).length:=
 List.length_pos_of_mem (a:=0) (List.mem_filter.mpr ⟨Dh.mpr (by rw[h];simp),by subst h;simp⟩)
theorem Qw(h:b∈kY ws ks):∃w,ws[b]?=ae w/\∀k∈w,k∈ks:=by
 obtain⟨h1,h2⟩:=List.mem_filter.mp h;have hj:=Dh.mp h1;refine⟨ws[b],Ar hj,?_⟩;have:=of_decide_eq_true h2;rw[List.getD_eq_getElem?_getD,Ar hj,Option.getD_some]at this;exact this
theorem DM:∀{fs:List Fe}{ks ks':List Str},(∀k∈ks,k∈ks')->rF ks fs->rF ks' fs
 |[],_,_,_,_=>trivial
 |f::r,ks,ks',h,z=>⟨λk hk=>h k (z.1 k hk),DM (λk hk=>(Ax.mp hk).elim (λq=>Bx _ (h k q)) λq=>Az _ q) z.2⟩
theorem Ac.right_mono{ws:List (List Str)}{a:Ac}(h:∀k∈ks,k∈ks')(z:a.right ws ks):a.right ws ks':=
 ⟨DM h z.1,λb hb=>by obtain⟨w,h1,h2⟩:=z.2 b hb;exact⟨w,h1,λk hk=>h k (h2 k hk)⟩⟩
theorem W0(h:nv ws (w,as))(hk:∀k∈ks,k∈w++as.flatMap Ac.bs)(ha:a.right ws ks):nv ws (w,as++[a]):=λp b hb=>by
 dsimp only at hb ⊢;by_cases hp:p < as.length
 ·rw[G7 hp]at hb;have:=h p b hb;unfold kn at this ⊢;rw[List.take_append_of_le_length (Gn hp)];exact this
 ·rw[List.getElem?_append_right ⋯]at hb;have e0:p-as.length=0:=by
   by_cases e:p-as.length=0
   ·exact e
   ·rw[Fn (by rw[As];omega)]at hb;cases hb
  rw[e0]at hb;cases hb;have ep:p=as.length:=by omega
  subst ep;refine Ac.right_mono (λk z=>?_) ha;unfold kn;rw[List.take_append_of_le_length (Ay _),F0];exact hk k z
structure ActO(ws:List (List Str))(want ks:List Str)(acts:List Ac):Prop where
 mem:∀k,k∈ks↔k∈want++acts.flatMap Ac.bs
 ok:∀k∈ks,eu k
 fs:∀a∈acts,gC a
 ri:nv ws (want,acts)
def qB(ws:List (List Str))(bl:List Aa)(want:List Str)(nb:Int)(ds:List Aa)(δ:Sl)(n:Int):Prop:=∃(ks:List Str)(acts:List Ac)(x2 x7 x8 x9 x10:Option SV),
 δ=[ae (.w .tp),↑(.list (ws.map cW)),x2,ae (.own bl),↑(cW want),ae (.own (ks.map .str)),ae (.own (acts.map Ac.d)),x7,x8,x9,x10]/\ActO ws want ks acts/\ks.length+4*ds.length<=40/\acts.length+ds.length<=8/\n+11*(ds.length:Int)<=nb+89
theorem N9(hw0:ws=[]::w0)(hwl:ws.length<=6)(hnb:nb+89 < 2 ^ 39)(O:ActO ws want ks acts)(hk:ks.length+4*(r.length+1)<=40)(ha:acts.length+(r.length+1)<=8)(hn:n+11*((r.length:Int)+1)<=nb+89)
  (kN:∀δ n,qB ws bl want nb r δ n->K.nx δ n):
  aq (aT 8 (aV (bB [af,ae 5,ae 1] (dF (wB iF (ao ↥1 ak))) (aF 0) ⇑1002 ↥0))) (aq (g9 (az oi (ao ↥0 (ao (fL 5) (ao ↥8 ak)))) (cR 2 (bP (aF 9) (bP (aF 10) cq)))) (aq (br 6 ↥9) (bj (eY ↥10) (aF 7) (aX (cT (w2 ↥7 (fL 5) (d6 ah))) (br 5 ↥7) aG))))
   [ae (.w .tp),↑(.list (ws.map cW)),↑d,ae (.own bl),↑(cW want),ae (.own (ks.map .str)),ae (.own (acts.map Ac.d)),x7,x8,x9,x10] n K:=by
 refine aA (show aT 8 _ _ _ _ from bf ?_);unfold bB dF;refine aZ (au rfl ?_);refine An ⟨by omega,by rw[Ab];omega⟩ ?_;rw[B6,Ab];refine Ny ws ks ?_;ac_nf;refine aA ?_;unfold g9;have ol:(kY ws ks).length<=6:=A4 (List.length_filter_le _ _) (by rw[List.length_range];exact hwl);refine gA (au rfl (kF rfl (au rfl ?_)));refine Eb ks (Eb (kY ws ks) (Eb ws ⟨rfl,by omega,O.ok,WO hw0,by omega,λb hb=>Qw hb,by omega,λact n' hfs hri hn'=>?_⟩));refine An rfl ?_;dsimp only[bP,cq,aF,Aw];refine aA (iD rfl (λQ q=>au rfl q) (by rw[Ab];omega) ?_);ac_nf;unfold bj eY;refine au rfl ?_;dsimp only;have hbs:=Kc hfs.1;refine eW (λds δ n''=>∃(ks' dn bs':List Str)(x7:Option SV),ds=bs'.map .str/\dn++bs'=act.bs/\(∀k,k∈ks'↔k∈ks++dn)/\n''=n'/\δ=[ae (.w .tp),↑(.list (ws.map cW)),↑d,ae (.own bl),↑(cW want),ae (.own (ks'.map .str)),ae (.own (acts.map Ac.d++[act.d])),x7,↑(.list ((kY ws ks).map λb=>.int (b:Nat))),↑act.d,↑(.list (act.bs.map .str))]/\ks'.length+bs'.length<=ks.length+4)
  (λδ n'' I=>?_) (λe r' δ n'' N I kN'=>?_) _ _ _ ⟨ks,[],act.bs,x7,rfl,rfl,λk=>by simp,rfl,rfl,by have:=hbs.2;omega⟩
 ·obtain⟨ks',dn,bs',x7,e,hdn,hm,rfl,rfl,hk'⟩:=I;cases C6.mp e.symm;rw[A5]at hdn;subst hdn;have hm':∀k,k∈ks'↔k∈want++(acts++[act]).flatMap Ac.bs:=λk=>by
   rw[hm k,Ax,O.mem k,Cy,<-A9,Ax (s:=want++acts.flatMap Ac.bs)];simp
  refine kN _ _ ⟨ks',acts++[act],_,_,_,_,_,by rw[Bc];rfl,⟨hm',λk z=>?_,λa z=>?_,W0 O.ri (λk z=>(O.mem k).mp z) hri⟩,by omega,by rw[Ah,As];omega,by omega⟩
  ·exact(Ax.mp ((hm k).mp z)).elim (O.ok k) (hbs.1 k)
  ·rcases Ax.mp z with z|z
   ·exact O.fs a z
   ·rw[Au]at z;subst z;exact hfs
 ·obtain⟨ks',dn,bs',x7,e',hdn,hm,rfl,rfl,hk'⟩:=I;obtain⟨s,bs'',rfl,rfl,rfl⟩:=Da.mp e'.symm;rw[Am]at hk';nofun;have hdn':(dn++[s])++bs''=act.bs:=by rw[A9];exact hdn
  refine iE (av (au rfl (kF rfl (An rfl ⟨oO ks',?_⟩))));refine ku (λz=>?_) (λz=>?_)
  ·refine iD rfl (λQ q=>au rfl q) (by rw[Ab];omega) (kN' _ _ ⟨ks'++[s],dn++[s],bs'',↑(.str s),rfl,hdn',λk=>?_,rfl,?_,by rw[Ah,As];omega⟩)
   ·rw[Ax,hm k,<-A9,Ax (s:=ks++dn)]
   ·rw[Bc];rfl
  ·have hs:s∈ks':=by
    have z':(!bG (.str s) (ks'.map .str))=ai:=z;rw[kB]at z';simpa using z'
   refine kN' _ _ ⟨ks',dn++[s],bs'',↑(.str s),rfl,hdn',λk=>?_,rfl,rfl,by omega⟩;rw[<-A9,Ax (s:=ks++dn),Au,<-hm k];exact⟨.inl,λq=>q.elim id λe=>e▸hs⟩
def zS(n0:Int)(ds:List Aa)(δ:Sl)(n:Int):Prop:=∃(more:List (List Str))(x2:Option SV),δ=[ae (.w .tp),ae (.own (([]::more).map cW)),x2,af,af,af,af,af,af,af,af]/\more.length+ds.length<=5/\(∀w∈more,w∈iW)/\n+(ds.length:Int)<=n0+6
def qr(ws:List (List Str))(n0:Int)(ds:List Aa)(δ:Sl)(n:Int):Prop:=∃(bl:List Bl)(re:List (List Str))(x2 x4 x5 x6 x7 x8 x9 x10:Option SV),
 δ=[ae (.w .tp),↑(.list (ws.map cW)),x2,ae (.own (bl.map bR)),x4,x5,x6,x7,x8,x9,x10]/\ds=re.map cW/\bl.map (·.1)++re=ws/\(∀b∈bl,rC b/\nv ws b)/\n+90*(ds.length:Int)<=n0+600
theorem QS{bl:List Bl}(hw:∀w∈ws,w∈iW)(hw0:ws=[]::w0)(hwl:ws.length<=6)(hn0:n0+600 < 2 ^ 39)(hb:bl.map (·.1)++want::re=ws)(hbo:∀b∈bl,rC b/\nv ws b)(hn:n+90*((re.length:Int)+1)<=n0+600)
  (kN:∀δ n,qr ws n0 (re.map cW) δ n->K.nx δ n):
  aq (bD 5 (ky ↥4)) ⇑1000
   [ae (.w .tp),↑(.list (ws.map cW)),x2,ae (.own (bl.map bR)),↑(cW want),x5,x6,x7,x8,x9,x10] n K:=by
 obtain⟨hss,hso,hnd,hup⟩:=Y4 (hw want (by rw[<-hb];exact Az _ Ae));have hbl:bl.length+(re.length+1)<=6:=by rw[<-hb,Ah,Ab,Am]at hwl;exact hwl
 refine aA (He (ds:=want.map .str) rfl ?_);ac_nf;refine aA (mq ?_);ac_nf;refine aA (Ju (L:=[.int 2,.int 3,.int 1,.int 4,.int 2,.int 0,.int 3,.int 8]) (M:=8) rfl (λQ q=>bf (An ∎ q)) ⋯ rfl ∎ ∎ (λd hd=>?_) ∎ λj hj=>?_)
 ·simp only[Aq,Av,or_false]at hd;rcases hd with rfl|rfl|rfl|rfl|rfl|rfl|rfl|rfl
  ·exact⟨2,by decide,rfl⟩
  ·exact⟨3,by decide,rfl⟩
  ·exact⟨1,by decide,rfl⟩
  ·exact⟨4,by decide,rfl⟩
  ·exact⟨2,by decide,rfl⟩
  ·exact⟨0,by decide,rfl⟩
  ·exact⟨3,by decide,rfl⟩
  ·exact⟨8,by decide,rfl⟩
 refine eW (qB ws (bl.map bR) want n) (λδ n' I=>?_) (λd r' δ n' N I kN'=>?_) _ _ _ ⟨want,[],_,_,_,_,_,rfl,⟨λk=>by simp,hso,λa ha=>by simp at ha,λp a ha=>by simp at ha⟩,by rw[fE];omega,by rw[fE];simpa using hj,by rw[fE];omega⟩
 ·obtain⟨ks,acts,y2,y7,y8,y9,y10,rfl,O,_,ha,hn'⟩:=I;dsimp only;refine ic rfl ?_;ac_nf;refine k9 rfl (dD (au rfl (aZ (au rfl (lV ?_)))));have ha':acts.length<=8:=by simpa using ha
  refine An (show 2<=1000 by decide) (An (by rw[Ab];omega) (kN _ _ ⟨bl++[(want,acts)],re,_,_,_,_,_,_,_,_,by rw[Bc];rfl,rfl,by rw[Bc,A9];exact hb,λb z=>?_,?_⟩))
  ·rcases Ax.mp z with z|z
   ·exact hbo b z
   ·rw[Au]at z;subst z;exact⟨⟨hss,hso,ha',O.fs,hnd,hup⟩,O.ri⟩
  ·have h0:n'<=n+89:=by simpa using hn'
   rw[Ab];omega
 ·obtain⟨ks,acts,y2,y7,y8,y9,y10,rfl,O,hk,ha,hn'⟩:=I;rw[Am]at hk ha hn';nofun;exact N9 hw0 hwl ⋯ O hk ha ⋯ kN'
theorem VB:bS yz HL ["_law_tape_here","_law_wants","_law_k","_law_blocks","_law_want","_law_known","_law_acts","_law_name","_law_open_ones","_law_act_here","_law_bound"]:=λws n0 Q h=>by
 obtain⟨rfl,hn0,k⟩:=h;show HL [ae (.w .tp),af,af,af,af,af,af,af,af,af,af] n0 _;refine aA (show bD 1 _ _ _ _ from An (Bf _) (An ∎ ?_));ac_nf;refine aA (Ju (L:=[.int 0,.int 1,.int 2,.int 1,.int 0,.int 2,.int 5]) (M:=5) rfl (λQ q=>bf (An ∎ q)) ⋯ rfl ∎ ∎ (λd hd=>?_) ∎ λj hj=>?_)
 ·simp only[Aq,Av,or_false]at hd;rcases hd with rfl|rfl|rfl|rfl|rfl|rfl|rfl
  ·exact⟨0,by decide,rfl⟩
  ·exact⟨1,by decide,rfl⟩
  ·exact⟨2,by decide,rfl⟩
  ·exact⟨1,by decide,rfl⟩
  ·exact⟨0,by decide,rfl⟩
  ·exact⟨2,by decide,rfl⟩
  ·exact⟨5,by decide,rfl⟩
 refine eW (zS n0) (λδ n I=>?_) (λd r δ n N I kN=>?_) _ _ _ ⟨[],af,rfl,by rw[fE];simpa using hj,λd hd=>by simp at hd,by rw[fE];omega⟩
 ·obtain⟨more,x2,rfl,hl,hm,hn⟩:=I;dsimp only;refine aA (mq ?_);ac_nf;refine ic rfl ?_;ac_nf;refine aA ?_;unfold bj eY;refine au rfl ?_;dsimp only;have hw:∀w∈([]:List Str)::more,w∈iW:=λd hd=>by
   rcases Aq.mp hd with rfl|z
   ·simp[iW]
   ·exact hm d z
  have hwl:(([]:List Str)::more).length<=6:=by rw[Am];simp at hl;omega
  refine eW (qr ([]::more) n0) (λδ n' I=>?_) (λd r δ n' N I kN=>?_) _ _ _ ⟨[],[]::more,_,_,_,_,_,_,_,_,rfl,rfl,rfl,λb hb=>by simp at hb,?_⟩
  ·obtain⟨bl,re,y2,y4,y5,y6,y7,y8,y9,y10,rfl,er,hb,hbo,hn'⟩:=I;cases C6.mp er.symm;rw[A5]at hb;dsimp only;refine ic rfl ?_;ac_nf;refine aY (aZ (au rfl (lV (k bl n' ⟨by have:=congrArg E8 hb;simp at this;omega,?_,λb z=>⟨(hbo b z).1,by rw[hb];exact(hbo b z).2⟩⟩ ⟨more,hb⟩ (by simpa using hn')))));rw[<-hb,Ab]at hwl;exact hwl
  ·obtain⟨bl,re,y2,y4,y5,y6,y7,y8,y9,y10,rfl,er,hb,hbo,hn'⟩:=I;obtain⟨want,re,rfl,rfl,rfl⟩:=Da.mp er.symm;rw[Am,Ab]at hn';nofun;exact QS hw rfl hwl hn0 hb hbo ⋯ kN
  ·have h1:n<=n0+6:=by simpa using hn
   have h2:(((([]:List Str)::more).map cW).length:Int)<=6:=by rw[Ab];omega
   omega
 ·obtain⟨more,x2,rfl,hl,hm,hn⟩:=I;rw[Am]at hl hn;nofun;refine k9 rfl (av (bf (An ∎ (An ∎ (An ∎ (An ∎ (An ∎ (An ∎ ?_))))))));dsimp only;refine iV (m:=5) rfl ⋯ ∎ ∎ λq q0 q1=>jA (ds:=[cW [],cW ["n"],cW ["go","n"],cW ["nm"],cW []]) q0 q1 λw hw=>?_;have:∃v∈iW,w=cW v:=by
   simp only[Aq,Av,or_false]at hw;rcases hw with rfl|rfl|rfl|rfl|rfl
   ·exact⟨[],by simp[iW],rfl⟩
   ·exact⟨["n"],by simp[iW],rfl⟩
   ·exact⟨["go","n"],by simp[iW],rfl⟩
   ·exact⟨["nm"],by simp[iW],rfl⟩
   ·exact⟨[],by simp[iW],rfl⟩
  obtain⟨v,hv,rfl⟩:=this;refine An (by rw[Ab,Am];omega) (kN _ _ ⟨more++[v],↑d,?_,by rw[Ah,As];omega,λe he=>?_,by omega⟩)
  ·rw[show([]::(more++[v]):List (List Str))=([]::more)++[v]from rfl,Bc];rfl
  rcases Ax.mp he with z|z
  ·exact hm e z
  ·rw[Au]at z;subst z;exact hv
theorem IC{α:Type}{f:α->Aa}{P:α->Prop}:∀{ds:List Aa},(∀d∈ds,∃x,P x/\d=f x)->∃xs:List α,ds=xs.map f/\∀x∈xs,P x
 |[],_=>⟨[],rfl,λx hx=>by simp at hx⟩
 |d::r,h=>by
  obtain⟨x,hx,rfl⟩:=h d Ae;obtain⟨xs,rfl,hxs⟩:=IC λe he=>h e (Af _ he);exact⟨x::xs,rfl,λy hy=>(Aq.mp hy).elim (λe=>e▸hx) (hxs y)⟩
def yn(m:Nat)(n0:Int)(ds:List Aa)(δ:Sl)(n:Int):Prop:=∃(ns:List Nt)(x y:Option SV),δ=[ae (.w .tp),↑(.int m),ae (.own (ns.map K0)),x,y]/\ns.length+ds.length<=m/\(∀q∈ns,FW q)/\n+6*(ds.length:Int)<=n0+100
theorem Xi:bS ud HP ["_law_tape_here","_law_most","_law_found","_law_k","_law_row"]:=λws n0 Q h=>by
 obtain⟨m,rfl,hm,hn0,k⟩:=h;show HP [ae (.w .tp),↑(.int m),af,af,af] n0 _;refine aA (mq ?_);ac_nf;refine aA ?_;unfold bj dF;refine k8 (m:=(m:Int)+1) rfl (λQ q=>av (au rfl (aJ q))) ⋯ ⋯ ⋯ λr r0 r1=>?_;refine An ⟨by omega,by omega⟩ ?_;have hr:r.toNat<=m:=by omega
 refine eW (yn m n0) (λδ n I=>?_) (λd r' δ n N I kN=>?_) _ _ _ ⟨[],af,af,rfl,by rw[fE];simpa using hr,λd hd=>by simp at hd,by rw[fE];omega⟩
 ·obtain⟨ns,x,y,rfl,hl,hns,hn⟩:=I;dsimp only;refine ic rfl ?_;ac_nf;exact aY (aZ (au rfl (lV (k ns n ⟨by simpa using hl,hns⟩ (by simpa using hn)))))
 ·obtain⟨ns,x,y,rfl,hl,hns,hn⟩:=I;rw[Am]at hl hn;nofun;refine aA (show aT 4 _ _ _ _ from aZ (bf ?_));unfold bB;dsimp only;refine aW (au rfl (An rfl ⟨by omega,λs s1 s4=>?_⟩));refine An ⟨by omega,by omega⟩ ?_;rw[B6];refine uK (λv=>kU v=ah) 1 (λd n Q' hn q=>aW (au rfl (An rfl ⟨by omega,λv hv=>q v _ (tF hv) ⋯⟩))) _ [] af _ (by rw[fE];omega) λrow n' hrl hrow hn'=>?_;rw[fE]at hrl hn';rw[Bz];refine lV ?_;ac_nf;refine k9 rfl (dD (au rfl (JE rfl ⋯ λv hv=>?_)));refine An (show 2<=1000 by decide) (An (by rw[Ab];omega) (kN _ _ ⟨ns++[(row,v)],_,_,by rw[Bc];rfl,by rw[Ah,As];omega,λe he=>?_,by omega⟩));rcases Ax.mp he with z|z
  ·exact hns e z
  ·rw[Au]at z;subst z;exact⟨⟨⟨by show row.length<=4;omega,by show 1<=row.length;omega⟩,hrow⟩,GJ hv⟩
theorem L3:bS uI JT ["_law_tape_here","_law_programs"]:=λws n0 Q h=>by
 obtain⟨rfl,hn0,k⟩:=h;show JT [ae (.w .tp),af] n0 _;refine aA (show bD 1 _ _ _ _ from ?_);unfold bD bB dF;refine av (bf (An ∎ ?_));dsimp only;refine iV (m:=8) rfl ⋯ ∎ ∎ λq q0 q1=>jA (ds:=[.int 2,.int 1,.int 2,.int 3,.int 2,.int 1,.int 0,.int 5]) q0 q1 λd hd=>?_;have hj:∃j:Nat,j<=5/\d=.int j:=by
  simp only[Aq,Av,or_false]at hd;rcases hd with rfl|rfl|rfl|rfl|rfl|rfl|rfl|rfl
  ·exact⟨2,by decide,rfl⟩
  ·exact⟨1,by decide,rfl⟩
  ·exact⟨2,by decide,rfl⟩
  ·exact⟨3,by decide,rfl⟩
  ·exact⟨2,by decide,rfl⟩
  ·exact⟨1,by decide,rfl⟩
  ·exact⟨0,by decide,rfl⟩
  ·exact⟨5,by decide,rfl⟩
 obtain⟨j,hj,rfl⟩:=hj;refine An ⟨by omega,by omega⟩ ?_;rw[B6];refine uK (λd=>∃P,(kZ P/\gz P)/\d=bE P) 600 (λd n Q' hn q=>aW (au rfl (An rfl ⟨by omega,λP n' hP hP' hn'=>q (bE P) n' ⟨P,⟨hP,hP'⟩,rfl⟩ ⋯⟩))) _ [] af _ (by rw[fE];omega) λds n1 hpl hps0 hn1=>?_;rw[fE]at hpl hn1;rw[Bz];obtain⟨ps,rfl,hps⟩:=IC hps0;clear hps0;rw[Ab]at hpl;ac_nf;have rest:∀(ps':Pg)(n2:Int),ps'.length<=5->(∀P∈ps',kZ P/\gz P)->n2<=n1+1->bW 1 ⇑1009 [ae (.w .tp),ae (.own (ps'.map bE))] n2 {nx:=λ_ n=>Q (.d .none) n,rt:=Q}:=λps' n2 hl' hp' hn2=>by
  refine ic rfl ?_;ac_nf;refine aY (dD (aZ (au rfl (lV (dZ (au rfl (av (bf (An ∎ ?_)))))))));dsimp only;refine iV (m:=4) rfl ⋯ ∎ ∎ λr r0 r1=>jA (ds:=[.int 4,.int 3,.int 6,.int 12]) r0 r1 λd hd=>?_;have hm:∃m:Nat,m<=12/\d=.int m:=by
   simp only[Aq,Av,or_false]at hd;rcases hd with rfl|rfl|rfl|rfl
   ·exact⟨4,by decide,rfl⟩
   ·exact⟨3,by decide,rfl⟩
   ·exact⟨6,by decide,rfl⟩
   ·exact⟨12,by decide,rfl⟩
  obtain⟨m,hm,rfl⟩:=hm;exact Eb m ⟨rfl,hm,by omega,λns n' hns hn'=>An (show 2<=1000 by decide) (k ps' _ n' ⟨hl',λP hP=>(hp' P hP).1⟩ (λP hP=>(hp' P hP).2) ⟨A4 hns.1 hm,hns.2⟩ ⋯)⟩
 refine aA (iE ?_);refine(show cT _ _ _ _ from av (aZ (kF rfl (OX (aJ (lS ?_))))));rw[Ab];show if decide ((ps.length:Int)=2)=ah then _ else _
 by_cases h2:(ps.length:Int)=2
 ·rw[if_pos (decide_eq_true h2)];refine av (iV (m:=4) rfl ⋯ ∎ ∎ λq q0 q1=>aJ (lS ?_));show if decide (q=0)=ah then _ else _
  by_cases hq:q=0
  ·rw[if_pos (decide_eq_true hq)];have hl2:ps.length=2:=by omega
   obtain⟨P,P',rfl⟩:∃P P',ps=[P,P']:=by
    match ps,hl2 with
    |[P,P'],_=>exact⟨P,P',rfl⟩
   refine(show hV 1 _ _ _ _ _ from av (kF rfl (aJ ?_)));refine(show a8 (.ln [bE P,bE P']) (~~~0) _ _ from ?_);refine rest [P,P] _ (show 2<=5 by decide) (λR hR=>?_) ⋯;simp only[Aq,Av,or_false,or_self]at hR;subst hR;exact hps _ Ae
  ·rw[if_neg (by simpa using hq)];exact rest ps _ ⋯ hps ⋯
 ·rw[if_neg (by simpa using h2)];exact rest ps _ ⋯ hps ⋯
theorem GS(h:eu k):k.length<=4:=by
 have:=zV h.1;omega
theorem Rr:bS lX Vn ["pattern"]:=λws n Q h=>by
 obtain⟨fs,rfl,ok,k⟩:=h;refine VR fs n ?_;exact⟨a9 fs,.inl rfl,Fg (oW ok) ∎,λx hx=>A4 (GS (oG ok x hx)) ∎,λys a b c=>k ys (A4 (v3 a λz hz=>(b z).mp hz) (oW ok)) b⟩
theorem Xl:bS wF IS ["program","block","place","wanted","acts","known","act"]:=λws n Q h=>by
 obtain⟨bs,i,p,⟨w,as⟩,rfl,hi,⟨hb1,hb2,hb3,hb4⟩,hp,k⟩:=h;dsimp only at hb1 hb2 hb3 hb4 hp k;have hi':(bs.map bR)[i]?=ae (bR (w,as)):=by rw[Bh,hi];rfl
 show IS [↑(.tuple (bs.map bR)),↑(.int i),↑(.int p),af,af,af,af] n _;refine aA (dz (x:=.tuple (w.map .str)) (λQ q=>av (av (au rfl (au rfl (eZ hi' (aJ (gO q))))))) ?_);ac_nf;refine aA (dz (x:=.tuple (as.map Ac.d)) (λQ q=>av (av (au rfl (au rfl (eZ hi' (aJ (gj q))))))) ?_);ac_nf;refine aA (He rfl ?_);ac_nf;refine aA ?_;unfold bj bN cu;refine au rfl ?_;dsimp only[cJ,cg];refine au rfl ?_;dsimp only;rw[IP _ (by rw[Ab];exact hp),<-List.map_take];refine eW (λds δ n'=>∃(dn re:List Ac)(L:List Str)(x:Option SV),ds=re.map Ac.d/\dn++re=as.take p/\n'=n/\δ=[↑(.tuple (bs.map bR)),↑(.int i),↑(.int p),↑(.tuple (w.map .str)),↑(.tuple (as.map Ac.d)),ae (.own (L.map .str)),x]/\KnI w dn L) (λδ n' I=>?_) (λd r δ n' N I kN=>?_) _ _ _
  ⟨[],as.take p,w,af,rfl,rfl,rfl,rfl,KnI.first hb1 hb2⟩
 ·obtain⟨dn,re,L,x,e,hdn,rfl,rfl,I⟩:=I;cases C6.mp e.symm;rw[A5]at hdn;subst hdn;dsimp only;refine ic rfl ?_;ac_nf;have hl:(as.take p).length<=8:=A4 (List.length_take_le _ _) ⋯;have hI:=I.len;refine aY (aZ (bf (show qg _ _ _ _ from au rfl ?_)));exact Eb L ⟨.inl rfl,by omega,λx hx=>A4 (GS (I.ok x hx)) ∎,λys a b c=>k ys (A4 (v3 a λz hz=>(b z).mp hz) ⋯) λz=>(b z).trans (I.mem z)⟩
 ·obtain⟨dn,re,L,x,e,hdn,rfl,rfl,I⟩:=I;obtain⟨a,re,rfl,rfl,rfl⟩:=Da.mp e.symm;nofun;have ha:cQ a.fs:=(hb4 a (Gw (i:=p) (by rw[<-hdn];exact Az _ Ae))).1;have hlen:L.length<=36:=by
   have h1:dn.length+(re.length+1)=(as.take p).length:=by rw[<-hdn,Ah,Am]
   have h3:=I.len;have h4:(as.take p).length<=as.length:=List.length_take_le' _ _;omega
  have hdn':(dn++[a])++re=as.take p:=by rw[A9];exact hdn
  have nxt:∀L',KnI w (dn++[a]) L'->N [↑(.tuple (bs.map bR)),↑(.int i),↑(.int p),↑(.tuple (w.map .str)),↑(.tuple (as.map Ac.d)),ae (.own (L'.map .str)),↑a.d] n':=λL' I'=>kN _ _ ⟨dn++[a],re,L',_,rfl,hdn',rfl,rfl,I'⟩;have get:∀(K:DEnds)(hK:∀δ n,N δ n->K.nx δ n)(s:Str)(fs:List Fe)(r:List Aa),a.d=.tuple (.str s::bJ fs::r)->bG (.str s) ((Zf:List Str).map .str)=ah->a.bs=a9 fs->a.fs=fs->aX (cT (dH Zf (w2 ↥6 ⇑0 aD))) (ni 5 (az lX (ao (w2 ↥6 ⇑1 aD) ak))) aG
    [↑(.tuple (bs.map bR)),↑(.int i),↑(.int p),↑(.tuple (w.map .str)),↑(.tuple (as.map Ac.d)),ae (.own (L.map .str)),↑a.d] n' K:=λK hK s fs r e1 e2 e3 e4=>by
   rw[e1]at nxt ⊢;refine bo (λQ q=>i3 (s:=s) (λQ q=>fJ rfl q) e2 q) ?_;refine(show ni 5 _ _ _ _ from aW (gw rfl (Eb fs ⟨rfl,e4▸ha,λys hl hys=>An ⟨by rw[Ab];omega,by rw[Ab];omega⟩ ?_⟩)));have:=nxt (L++ys) (I.more (λk=>by rw[e3];exact hys k) hl ha);rw[Bc]at this;exact hK _ _ this
  have skip:∀(K:DEnds)(hK:∀δ n,N δ n->K.nx δ n)(s:Str)(r:List Aa),a.d=.tuple (.str s::r)->bG (.str s) ((Zf:List Str).map .str)=ai->a.bs=[]->aX (cT (dH Zf (w2 ↥6 ⇑0 aD))) (ni 5 (az lX (ao (w2 ↥6 ⇑1 aD) ak))) aG
    [↑(.tuple (bs.map bR)),↑(.int i),↑(.int p),↑(.tuple (w.map .str)),↑(.tuple (as.map Ac.d)),ae (.own (L.map .str)),↑a.d] n' K:=λK hK s r e1 e2 e3=>by
   rw[e1]at nxt ⊢;refine aU (λQ q=>i3 (s:=s) (λQ q=>fJ rfl q) e2 q) (hK _ _ (nxt L (I.skip e3)))
  cases a with
  |lay fs age=>exact skip _ (λ_ _ z=>z) "lay" [bJ fs,age] rfl ∅ rfl
  |take fs=>exact get _ (λ_ _ z=>z) "take" fs [] rfl ∅ rfl rfl
  |read fs=>exact get _ (λ_ _ z=>z) "read" fs [] rfl ∅ rfl rfl
  |look fs b=>exact get _ (λ_ _ z=>z) "look" fs [.int b] rfl ∅ rfl rfl
  |same f g b=>exact skip _ (λ_ _ z=>z) "same" [f.d,g.d,.int b] rfl ∅ rfl
  |go b=>exact skip _ (λ_ _ z=>z) "go" [.int b] rfl ∅ rfl
theorem hX(hu:∀Q:Bool->Int->Prop,Q b n->u δ n Q)(k:if b=ah then v δ n Q else w δ n Q):eQ u v w δ n Q:=hu _ k
theorem fM(k:Q (~~~(i+j)) n):dN (λi j=>.int (i+j)) (~~~i) (~~~j) n Q:=k
theorem JO(e:δ[i]?=ae (↑(.tuple (a::r)))):∀Q:Bool->Int->Prop,Q (b7 h a) n->cT (w2 (w2 (aj i) (wC (.int 0)) aD) (wC (.str h)) bA) δ n Q:=λQ q=>aC (k:=b7 h a) (λQ q=>uC e q) q
def Ac.hd:Ac->Str
 |.lay _ _=>"lay"
 |.take _=>"take"
 |.read _=>"read"
 |.look _ _=>"look"
 |.same _ _ _=>"same"
 |.go _=>"go"
def Ac.tl:Ac->List Aa
 |.lay fs age=>[bJ fs,age]
 |.take fs=>[bJ fs]
 |.read fs=>[bJ fs]
 |.look fs b=>[bJ fs,.int b]
 |.same f g b=>[f.d,g.d,.int b]
 |.go b=>[.int b]
theorem mx(a:Ac):a.d=.tuple (.str a.hd::a.tl):=by cases a<;>rfl
def Ac.isSame:Ac->Bool
 |.same _ _ _=>ah
 |_=>ai
def Ac.isGo:Ac->Bool
 |.go _=>ah
 |_=>ai
theorem QK(a:Ac):b7 "same" (.str a.hd)=a.isSame:=by
 cases a with
 |lay _ _=>exact(show b7 "same" (.str "lay")=ai by decide +kernel)
 |take _=>exact(show b7 "same" (.str "take")=ai by decide +kernel)
 |read _=>exact(show b7 "same" (.str "read")=ai by decide +kernel)
 |look _ _=>exact(show b7 "same" (.str "look")=ai by decide +kernel)
 |same _ _ _=>exact(show b7 "same" (.str "same")=ah by decide +kernel)
 |go _=>exact(show b7 "same" (.str "go")=ai by decide +kernel)
theorem YF(a:Ac):b7 "go" (.str a.hd)=a.isGo:=by
 cases a with
 |lay _ _=>exact(show b7 "go" (.str "lay")=ai by decide +kernel)
 |take _=>exact(show b7 "go" (.str "take")=ai by decide +kernel)
 |read _=>exact(show b7 "go" (.str "read")=ai by decide +kernel)
 |look _ _=>exact(show b7 "go" (.str "look")=ai by decide +kernel)
 |same _ _ _=>exact(show b7 "go" (.str "same")=ai by decide +kernel)
 |go _=>exact(show b7 "go" (.str "go")=ah by decide +kernel)
theorem MW(a:Ac):bG (.str a.hd) [.str "look",.str "same",.str "go"]=a.to.isSome:=by
 cases a with
 |lay _ _=>exact(show bG (.str "lay") [.str "look",.str "same",.str "go"]=ai by decide +kernel)
 |take _=>exact(show bG (.str "take") [.str "look",.str "same",.str "go"]=ai by decide +kernel)
 |read _=>exact(show bG (.str "read") [.str "look",.str "same",.str "go"]=ai by decide +kernel)
 |look _ _=>exact(show bG (.str "look") [.str "look",.str "same",.str "go"]=ah by decide +kernel)
 |same _ _ _=>exact(show bG (.str "same") [.str "look",.str "same",.str "go"]=ah by decide +kernel)
 |go _=>exact(show bG (.str "go") [.str "look",.str "same",.str "go"]=ah by decide +kernel)
theorem Qt:bS uu xr ["act"]:=λws n Q h=>by
 obtain⟨a,rfl,q⟩:=h;show xr [↑a.d] n _;have hs:∀(b:Bool),a.isSame=b->∀Q:Bool->Int->Prop,Q b n->cT (w2 (w2 ↥0 (wC (.int 0)) aD) ⇑"same" bA) [↑a.d] n Q:=λb e Q q=>by
  rw[mx];exact JO rfl Q (by rw[QK,e];exact q)
 have hg:∀(b:Bool),a.isGo=b->∀Q:Bool->Int->Prop,Q b n->cT (w2 (w2 ↥0 (wC (.int 0)) aD) ⇑"go" bA) [↑a.d] n Q:=λb e Q q=>by
  rw[mx];exact JO rfl Q (by rw[YF,e];exact q)
 have other:a.isSame=ai->a.isGo=ai->(∀Q:DQ,Q (.d (bJ a.fs)) n->w2 ↥0 ⇑1 aD [↑a.d] n Q)->xr [↑a.d] n {nx:=λ_ n=>Q (.d .none) n,rt:=Q}:=λh1 h2 h3=>by
  refine aA (aU (hs ai h1) ?_);ac_rfl;refine aY (hX (hg ai h2) ?_);rw[if_neg Al];exact h3 _ q
 cases a with
 |lay fs age=>exact other rfl rfl λQ q=>gw rfl q
 |take fs=>exact other rfl rfl λQ q=>gw rfl q
 |read fs=>exact other rfl rfl λQ q=>gw rfl q
 |look fs b=>exact other rfl rfl λQ q=>gw rfl q
 |same f g b=>
  refine aA (bo (hs ah rfl) (aY ?_));unfold cu cg;exact au rfl (aJ (aJ q))
 |go b=>
  refine aA (aU (hs ai rfl) ?_);ac_rfl;refine aY (hX (hg ah rfl) ?_);grind;exact(show aB ak _ _ _ from An ∎ q)
theorem Xj(dn)(f:Fe):a9 (dn++[f])=a9 dn++f.bd.toList:=by
 unfold a9;rw[List.filterMap_append];have:[f].filterMap Fe.bd=f.bd.toList:=by cases f<;>rfl
 rw[this]
theorem yw(ks):∀(fs dn:List Fe),(bZ ks dn fs).isNone=iK (ks++a9 dn) fs
 |[],_=>rfl
 |f::r,dn=>by
  have ih:=yw ks r (dn++[f]);rw[Xj,<-A9]at ih;show(match f.us with|some k=>if k∈ks\/k∈a9 dn then bZ ks (dn++[f]) r else ae dn.length|none=>bZ ks (dn++[f]) r).isNone=((match f.us with|some k=>decide (k∈ks++a9 dn)|none=>ah)&&iK (ks++a9 dn++f.bd.toList) r);cases f.us with
  |none=>exact ih
  |some k=>
   show(if k∈ks\/k∈a9 dn then bZ ks (dn++[f]) r else ae dn.length).isNone=(decide (k∈ks++a9 dn)&&iK (ks++a9 dn++f.bd.toList) r);by_cases h:k∈ks\/k∈a9 dn
   ·rw[if_pos h,decide_eq_true (Ax.mpr h),Cm];exact ih
   ·rw[if_neg h,decide_eq_false (λz=>h (Ax.mp z))];rfl
theorem NY:bS vw Hv ["fields","known","k","field"]:=λws n Q h=>by
 obtain⟨fs,ks,rfl,ok,q⟩:=h;show Hv [↑(.tuple (fs.map Fe.d)),↑(.tuple (ks.map .str)),af,af] n _;refine aA ?_;unfold bj vI;refine au rfl ⟨fs.map Fe.d,rfl,?_⟩;refine eW (λds δ m=>m=n/\∃(dn re:List Fe)(x y:Option SV),dn++re=fs/\ds=iu dn.length (re.map Fe.d)/\δ=[↑(.tuple (fs.map Fe.d)),↑(.tuple (ks.map .str)),x,y]/\Q (.d (iB (bZ ks dn re))) n) (λδ m I=>?_) (λd r δ m N I kN=>?_) _ _ _ ⟨rfl,[],fs,af,af,rfl,rfl,rfl,q⟩
 ·obtain⟨rfl,dn,re,x,y,e1,e2,rfl,kq⟩:=I;have:re=[]:=by
   cases re with
   |nil=>rfl
   |cons f re=>rw[A3,Iy]at e2;cases e2
  subst this;exact(show Q (.d .none) m from kq)
 ·obtain⟨rfl,dn,re,x,y,e1,e2,rfl,kq⟩:=I;cases re with
  |nil=>cases e2
  |cons f re=>
   rw[A3,Iy]at e2;obtain⟨rfl,rfl⟩:=Cr e2;have nxt:∀x y,Q (.d (iB (bZ ks (dn++[f]) re))) m->N [↑(.tuple (fs.map Fe.d)),↑(.tuple (ks.map .str)),x,y] m:=λx y h=>kN _ _ ⟨rfl,dn++[f],re,x,y,by rw[A9];exact e1,by rw[Ah,As];rfl,rfl,h⟩;refine⟨rfl,?_⟩;dsimp only[bP,cq,aF,Aw];have h0:∀(b:Bool),f.us.isSome=b->∀Q:Bool->Int->Prop,Q b m->cT (w2 (w2 ↥3 ⇑0 aD) (aB ⇑1019) (gn ai)) [↑(.tuple (fs.map Fe.d)),↑(.tuple (ks.map .str)),↑(.int dn.length),↑f.d] m Q:=λb e Q q=>aC (k:=b) (λQ q=>av (fJ (a:=.str f.hd) (r:=f.tl) rfl (dD (aJ (aJ (An (show 2<=1000 by decide) ⟨rfl,rfl,by rw[if_neg Al,P8,e];exact q⟩)))))) q;cases hu:f.us with
   |none=>
    have kq:Q (.d (iB (match f.us with|some k=>if k∈ks\/k∈a9 dn then bZ ks (dn++[f]) re else ae dn.length|none=>bZ ks (dn++[f]) re))) m:=kq;rw[hu]at kq;exact aU (λQ q=>eU (a:=ai) (b:=ah) (h0 ai (by rw[hu];rfl)) (λz=>nomatch z) q) (nxt _ _ kq)
   |some k=>
    have kq:Q (.d (iB (match f.us with|some k=>if k∈ks\/k∈a9 dn then bZ ks (dn++[f]) re else ae dn.length|none=>bZ ks (dn++[f]) re))) m:=kq;rw[hu]at kq;have kq:Q (.d (iB (if k∈ks\/k∈a9 dn then bZ ks (dn++[f]) re else ae dn.length))) m:=kq;have h0':=h0 ah (by rw[hu];rfl);have ef:=QJ hu;have h1:∀Q:Bool->Int->Prop,Q (!decide (k∈ks)) m->cT (w2 (w2 ↥3 ⇑1 aD) ↥1 (gn ah)) [↑(.tuple (fs.map Fe.d)),↑(.tuple (ks.map .str)),↑(.int dn.length),↑f.d] m Q:=λQ q=>by
     rw[ef];exact aC (k:=!decide (k∈ks)) (λQ q=>av (gw rfl (au rfl ⟨rfl,oO ks,by rw[if_pos rfl,kB];exact q⟩))) q
    have okd:cQ dn:=⟨by have:=ok.1;rw[<-e1,Ah]at this;omega,λg hg=>ok.2 g (by rw[<-e1];exact Bx _ hg)⟩;have h2:∀Q:Bool->Int->Prop,Q (!decide (k∈a9 dn)) m->cT (w2 (w2 ↥3 ⇑1 aD) (az lX (ao (cu ↥0 cJ (cg ↥2)) ak)) (gn ah)) [↑(.tuple (fs.map Fe.d)),↑(.tuple (ks.map .str)),↑(.int dn.length),↑f.d] m Q:=λQ q=>by
     rw[ef];refine aC (k:=!decide (k∈a9 dn)) (λQ q=>av (gw rfl (aW ?_))) q;unfold cu cJ cg;refine au rfl (au rfl ?_);refine⟨dn,?_,okd,λys hl hy=>⟨rfl,oO ys,?_⟩⟩
     ·rw[IP _ (by rw[Ab,<-e1,Ah];omega),<-List.map_take,<-e1,List.take_left];rfl
     ·rw[if_pos rfl,kB,decide_eq_decide.mpr (hy k)];exact q
    by_cases a1:k∈ks
    ·rw[if_pos (Dr a1)]at kq;exact aU (λQ q=>eU (a:=ah) (b:=ai) h0' (λ_ Q q=>eU (a:=ai) (b:=ah) (λQ q=>h1 Q (by rw[decide_eq_true a1];exact q)) (λz=>nomatch z) q) q) (nxt _ _ kq)
    ·by_cases a2:k∈a9 dn
     ·rw[if_pos (Cw a2)]at kq;exact aU (λQ q=>eU (a:=ah) (b:=ai) h0' (λ_ Q q=>eU (a:=ah) (b:=ai) (λQ q=>h1 Q (by rw[decide_eq_false a1];exact q)) (λ_ Q q=>h2 Q (by rw[decide_eq_true a2];exact q)) q) q) (nxt _ _ kq)
     ·rw[if_neg (λz=>z.elim a1 a2)]at kq;exact bo (λQ q=>eU (a:=ah) (b:=ah) h0' (λ_ Q q=>eU (a:=ah) (b:=ah) (λQ q=>h1 Q (by rw[decide_eq_false a1];exact q)) (λ_ Q q=>h2 Q (by rw[decide_eq_false a2];exact q)) q) q) (aY (au rfl kq))
theorem l8(m):cO 0 m=(Ce m).map λi=>PyData.int (i:Nat):=by
 unfold cO;exact Ey λi _=>by rw[Int.zero_add]
theorem JC{α:Type}{rest:Sl}(f g):∀(xs:List α)(acc:List Aa)(x:Option SV)(n:Int),(∀a∈xs,∀(n:Int)(Q':DQ),Q' (.d (g a)) n->w (↑(f a)::rest) n Q')->Q (acc++xs.map g) n->cM (aF 0) aQ w Q (xs.map f) acc (x::rest) n
 |[],acc,x,n,_,q=>by rw[Bo,A5]at q;exact q
 |a::r,acc,x,n,h,q=>by
  simp only[A3,cM,aF,aQ,if_true,Br];refine h a Ae n _ (JC f g r (acc++[g a]) _ n (λb hb=>h b (Af _ hb)) ?_);rw[A9];exact q
theorem K3{α:Type}(g):∀l:List α,fe (l.map λf=>.bool (g f))=ae (l.map g)
 |[]=>rfl
 |f::l=>by
  rw[A3,A3,fe,K3 g l];rfl
theorem nM{α:Type}{rest:Sl}(f)(g)(xs:List α)(hF:∀Q:List Aa->Int->Prop,cM (aF 0) aQ w Q (xs.map f) [] (af::rest) n->F δ n Q)(h:∀a∈xs,∀(n:Int) (Q':DQ),Q' (.d (.bool (g a))) n->w (↑(f a)::rest) n Q')(q:Q (.d (.bool (xs.all g))) n):wB bu (ao (aV F) ak) δ n Q:=by
 refine aZ (bf (hF _ (JC f (λa=>.bool (g a)) xs [] af n h ?_)));rw[Bz];show(match fe (xs.map λc=>.bool (g c))with|some bs=>Q (.d (.bool (bs.all id))) n|none=>False);rw[K3];show Q (.d (.bool ((xs.map g).all id))) n;rw[Ep];exact q
theorem Vc:bS sV Jx ["program","block","known"]:=λws n Q h=>by
 obtain⟨P,b,ks,rfl,q⟩:=h;show Jx [↑(.tuple (P.map bR)),↑(.int b),↑(.tuple (ks.map .str))] n _;have q:Q (.d (.bool (match P[b]? with|some bl=>bl.1.all λk=>decide (k∈ks)|none=>ai))) n:=q;refine aY ?_;have h1:∀(c:Bool),decide (b < P.length)=c->∀Q:DQ,Q (.d (.bool c)) n->w2 ↥1 (wB aP (ao ↥0 ak)) eV [↑(.tuple (P.map bR)),↑(.int b),↑(.tuple (ks.map .str))] n Q:=λc e Q q=>by
  refine av (au rfl (fG rfl ?_));show Q (.d (.bool (decide ((b:Int) < ((P.map bR).length:Int))))) n;rw[Ab,show decide ((b:Int) < (P.length:Int))=decide (b < P.length)from decide_eq_decide.mpr ⋯,e];exact q
 by_cases hb:b < P.length
 ·rw[Ar hb]at q;have q:Q (.d (.bool (P[b].1.all λk=>decide (k∈ks)))) n:=q;refine b8 (a:=ah) (h1 ah (decide_eq_true hb)) (λ_ Q q=>?_) q;have hP:(P.map bR)[b]?=ae (bR P[b]):=by rw[Bh,Ar hb];rfl
  refine nM A7 (λk=>decide (k∈ks)) P[b].1 (rest:=[↑(.tuple (ks.map .str))]) (λQ q=>gY (ds:=P[b].1.map .str) (λQ q=>av (av (au rfl (au rfl (eZ hP (aJ (gO q))))))) q) (λk _ n Q' q=>av (au rfl (au rfl ⟨rfl,oO ks,?_⟩))) q;rw[if_neg Al,kB];exact q
 ·rw[Fn ⋯]at q;exact b8 (a:=ai) (b:=ah) (h1 ai (decide_eq_false hb)) (λz=>nomatch z) q
theorem Qj{a:Ac}(h:a.to=ae b)(e:δ[i]?=ae (↑a.d))(k:Q (~~~b) n):w2 (aj i) (cY ⇑1) aD δ n Q:=by
 cases a with
 |look fs c=>cases h;exact av (au e k)
 |same f g c=>cases h;exact av (au e k)
 |go c=>cases h;exact av (au e k)
 |_=>cases h
theorem TM{a:Ac}(h:∀k,k∈ys↔k∈ks):iK ks a.fs=(bZ ys [] a.fs).isNone:=by
 rw[yw,show a9 []=[]from rfl,A5];exact(FA a.fs h).symm
theorem TK(P)(ks)(a):dU (gq (iA P ks a))=dg P ks a:=by
 unfold iA dg;rw[TM (ys:=ks) λ_=>Iff.rfl];cases bZ ks [] a.fs with
 |some k=>rfl
 |none=>
  show dU (gq (if jG P ks a.to=ah then af else ae (1+a.fs.length)))=(ah&&jG P ks a.to);rw[Cm];cases jG P ks a.to<;>rfl
theorem XZ:bS rD CW ["program","block","acts"]:=λws n Q h=>by
 obtain⟨P,i,b,rfl,hi,wf,q⟩:=h;show CW [↑(.tuple (P.map bR)),↑(.int i),af] n _;have hi':(P.map bR)[i]?=ae (bR b):=by rw[Bh,hi];rfl
 refine aA (dz (x:=.tuple (b.2.map Ac.d)) (λQ q=>av (av (au rfl (au rfl (eZ hi' (aJ (gj q))))))) ?_);ac_nf;rw[rP]at q;have h8:=wf.2.2.1;refine aY (nM (w:=w2 (az mU (ao ↥2 (ao ↥1 (ao ↥0 ak)))) (wC .none) (bz ai)) (λp:Nat=>.int (p:Nat)) (jF P (b.1,b.2)) (Ce b.2.length) (rest:=[↑(.int i),↑(.tuple (P.map bR))]) (λQ q=>?_) (λp hp n Q' q=>?_) q)
 ·unfold bB dF;refine fG rfl ?_;rw[Ab];refine An ⟨by omega,by omega⟩ ?_;rw[B6,l8];exact q
 ·have hp:p < b.2.length:=Dh.mp hp;have ep:b.2[p]?=ae b.2[p]:=Ar hp;refine av (gA (au rfl (au rfl (au rfl ⟨P,i,p,b,b.2[p],rfl,hi,wf,ep,aJ ?_⟩))));show Q' (.d (.bool (dU (gq (iA P (kn b.1 b.2 p) b.2[p]))))) n;have:jF P (b.1,b.2) p=dU (gq (iA P (kn b.1 b.2 p) b.2[p])):=by
   unfold jF;show(match b.2[p]? with|some a=>dg P (kn b.1 b.2 p) a|none=>ah)=_;rw[ep];exact(TK P _ _).symm
  rw[this]at q;exact q
theorem O6(hl:∀Q:DQ,Q (~~~lo) n->wl δ n Q)(hw:∀Q:DQ,Q (~~~k) n->w δ n Q)(hh:∀Q:DQ,Q (~~~hi) n->wh δ n Q)(q:Q (.d (.bool (decide (lo<=k)&&decide (k<=hi)))) n):cV dA dA wl w wh δ n Q:=by
 unfold cV;refine hl _ (hw _ ?_);show iS (.d (.bool (decide (lo<=k)))) _ _;cases h:decide (lo<=k)with
 |true=>rw[h]at q;exact hh _ q
 |false=>rw[h]at q;exact q
theorem VA:∀ws n Q,aI i4 ws n Q->ws.length=1:=λ_ _ _ h=>dX h
theorem SX:∀ws n Q,aI i4 ws n Q->Jq (cz Zb ws) n {nx:=λ_ n=>Q (.d .none) n,rt:=Q}:=dY λd n K q=>by
 show Jq [↑d] n K;cases d with
 |tuple ds=>
  have hc:∀Q:Bool->Int->Prop,Q (decide ((1:Int)<=(ds.length:Int))&&decide ((ds.length:Int)<=6)) n->cT (cV dA dA ⇑1 (wB aP (ao ↥0 ak)) ⇑6) [↑(.tuple ds)] n Q:=λQ q=>aC (λQ q=>O6 (λQ q=>aJ q) (λQ q=>fG rfl q) (λQ q=>aJ q) q) q;have q:K.rt (.d (.bool ((decide ((1:Int)<=(ds.length:Int))&&decide ((ds.length:Int)<=6))&&ds.all gS))) n:=q;cases hb:(decide ((1:Int)<=(ds.length:Int))&&decide ((ds.length:Int)<=6))with
  |false=>
   rw[hb]at q hc;exact aA (bo (λQ q=>cn (a:=ai) (b:=ah) (jT rfl) (λ_ Q q=>gE (k:=ai) hc q) q) (aY (aJ q)))
  |true=>
   rw[hb,Cm]at q;rw[hb]at hc;refine aA (aU (λQ q=>cn (a:=ai) (b:=ai) (jT rfl) (λ_ Q q=>gE (k:=ah) hc q) q) ?_);ac_rfl;refine aY (nM id gS ds (rest:=[]) (λQ q=>gY (ds:=ds) (λQ q=>au rfl q) (by rw[Fy]at q;exact q)) (λd _ n Q' q=>cX (g:=gS) (λQ q=>au rfl q) Q' q) q)
 |_=>exact aA (bo (λQ q=>cn (a:=ah) (b:=ah) (λQ q=>gE (k:=ai) (λQ q=>aC (k:=ai) (λQ q=>q) q) q) (λz=>nomatch z) q) (aY (aJ q)))
theorem Kj(h:∀k,k∈ys↔k∈ks):∀(fs dn:List Fe),bZ ys dn fs=bZ ks dn fs
 |[],_=>rfl
 |f::r,dn=>by
  have ih:=Kj h r (dn++[f]);show(match f.us with|some k=>if k∈ys\/k∈a9 dn then bZ ys (dn++[f]) r else ae dn.length|none=>bZ ys (dn++[f]) r)=(match f.us with|some k=>if k∈ks\/k∈a9 dn then bZ ks (dn++[f]) r else ae dn.length|none=>bZ ks (dn++[f]) r);rw[ih];cases f.us with
  |none=>rfl
  |some k=>
   dsimp only;by_cases e:k∈ys\/k∈a9 dn
   ·rw[if_pos e,if_pos (by rwa [h k]at e)]
   ·rw[if_neg e,if_neg (by rwa [h k]at e)]
theorem Sr(h:∀k,k∈ys↔k∈ks):iA P ys a=iA P ks a:=by
 unfold iA;rw[Kj h,Qp P a.to h]
theorem U6:bS mU Lz ["program","block","place","act","known","fields","unknown"]:=λws n Q h=>by
 obtain⟨P,i,p,b,a,rfl,hi,wf,hp,q⟩:=h;show Lz [↑(.tuple (P.map bR)),↑(.int i),↑(.int p),af,af,af,af] n _;have hi':(P.map bR)[i]?=ae (bR b):=by rw[Bh,hi];rfl
 have hp':(b.2.map Ac.d)[p]?=ae a.d:=by rw[Bh,hp];rfl
 have hpl:p < b.2.length:=(Bu.mp hp).1;have oka:gC a:=wf.2.2.2 a (D4 hp);refine aA (dz (x:=a.d) (λQ q=>av (av (av (au rfl (au rfl (eZ hi' (aJ (gj (au rfl (eZ hp' q))))))))) ) ?_);ac_nf;refine aA (show aT 4 _ _ _ _ from gA (au rfl (au rfl (au rfl ⟨P,i,p,b,rfl,hi,wf,by omega,λys hl hy=>?_⟩))));ac_nf;refine aA (show aT 5 _ _ _ _ from aW (au rfl ⟨a,rfl,?_⟩));ac_nf;refine aA (show aT 6 _ _ _ _ from dZ (au rfl (au rfl ⟨a.fs,ys,rfl,oka.1,?_⟩)));ac_nf;rw[<-Sr hy]at q;unfold iA at q;cases hu:bZ ys [] a.fs with
 |some u=>
  rw[hu]at q;refine aA (bo (λQ q=>aC (k:=ah) (λQ q=>av (au rfl (aJ q))) q) (aY (av (aJ (au rfl (fM ?_))))));have e:((1+u:Nat):Int)=1+(u:Int):=by omega
  have q':Q (~~~((1+u:Nat):Int)) n:=q;rw[e]at q';exact q'
 |none=>
  rw[hu]at q;refine aA (aU (λQ q=>aC (k:=ai) (λQ q=>av (au rfl (aJ q))) q) ?_);ac_rfl;have hd:∀(c:Bool),a.to.isSome=c->∀Q:Bool->Int->Prop,Q c n->cT (dH Zc (w2 ↥3 ⇑0 aD)) [↑(.tuple (P.map bR)),↑(.int i),↑(.int p),↑a.d,↑(cW ys),↑(bJ a.fs),ae (.w (.d .none))] n Q:=λc e Q q=>by
   rw[mx];exact i3 (s:=a.hd) (λQ q=>fJ rfl q) ((MW a).trans e) q
  cases ht:a.to with
  |none=>
   rw[ht]at q;refine aA (aU (λQ q=>eU (a:=ai) (b:=ah) (hd ai (by rw[ht];rfl)) (λz=>nomatch z) q) ?_);ac_rfl;exact aY (aJ q)
  |some t=>
   rw[ht]at q;have cl:∀(c:Bool),jG P ys (ae t)=c->∀Q:Bool->Int->Prop,Q c n->cT (az sV (ao ↥0 (ao (w2 ↥3 (cY ⇑1) aD) (ao ↥4 ak)))) [↑(.tuple (P.map bR)),↑(.int i),↑(.int p),↑a.d,↑(cW ys),↑(bJ a.fs),ae (.w (.d .none))] n Q:=λc e Q q=>
    aC (k:=c) (λQ q=>gA (au rfl (Qj ht rfl (au rfl ⟨P,t,ys,rfl,by rw[e];exact q⟩)))) q
   cases hb:jG P ys (ae t)with
   |true=>
    rw[hb]at q;refine aA (aU (λQ q=>eU (a:=ah) (b:=ai) (hd ah (by rw[ht];rfl)) (λ_ Q q=>gE (k:=ah) (cl ah hb) q) q) ?_);ac_rfl;exact aY (aJ q)
   |false=>
    rw[hb]at q;refine aA (bo (λQ q=>eU (a:=ah) (b:=ah) (hd ah (by rw[ht];rfl)) (λ_ Q q=>gE (k:=ai) (cl ai hb) q) q) (aY (av (aJ (fG rfl (fM ?_))))));have e:((1+a.fs.length:Nat):Int)=1+((a.fs.map Fe.d).length:Int):=by rw[Ab];omega
    have q':Q (~~~((1+a.fs.length:Nat):Int)) n:=q;rw[e]at q';exact q'
theorem Ky(k:Q (.d (.bool (decide (a=b)))) n):bA (~~~a) (~~~b) n Q:=k
theorem kW(k:Q ‹[]› n):aB ak δ n Q:=An (Bf _) k
theorem EK(m):cO 0 m=(List.range' 0 m).map λi=>PyData.int (i:Nat):=by rw[l8,List.range_eq_range']
theorem XM:bS BP JH ["program","block","line","place","word"]:=λws n Q h=>by
 obtain⟨P,i,⟨w,as⟩,L,rfl,hi,wf,hn,q0⟩:=h;have q:match mC P i (w,as)with
  |some _=>False
  |none=>Q (.d .none) n:=by rw[hn];exact q0
 have hi':(P.map bR)[i]?=ae (bR (w,as)):=by rw[Bh,hi];rfl
 have hl8:as.length<=8:=wf.2.2.1;show JH [↑(.tuple (P.map bR)),↑(.int (i:Nat)),↑(.int (L:Nat)),af,af] n _;have c1:∀Q:Bool->Int->Prop,Q (decide ((i:Int)=0)) n->cT (w2 ↥1 ⇑0 bA) [↑(.tuple (P.map bR)),↑(.int (i:Nat)),↑(.int (L:Nat)),af,af] n Q:=λQ q=>aC (λQ q=>av (au rfl (aJ (Ky q)))) q;have c2:∀Q:Bool->Int->Prop,Q (!(w.map A7).isEmpty) n->cT (w2 ⇑1023 (aB ak) (k0 ah)) [↑(.tuple (P.map bR)),↑(.int (i:Nat)),↑(.int (L:Nat)),af,af] n Q:=λQ q=>aC (λQ q=>av (av (av (au rfl (au rfl (eZ hi' (aJ (gO (kW q)))))))) ) q;unfold mC at q;have rest:(∀(h:¬(i=0/\w≠[])),True)->¬(i=0/\w≠[])->bj (dF (wB aP (ao ⇑1014 ak))) (aF 3) (aq (aT 4 (az mU (ao ↥0 (ao ↥1 (ao ↥3 ak))))) (aX (cT (w2 ↥4 (wC .none) (bz ah))) m6 aG))
   [↑(.tuple (P.map bR)),↑(.int (i:Nat)),↑(.int (L:Nat)),af,af] n {nx:=λ_ n=>Q (.d .none) n,rt:=Q}:=λ_ h0=>by
  rw[if_neg h0]at q;unfold bj dF;refine aZ (av (av (au rfl (au rfl (eZ hi' (aJ (gj ?_)))))));refine An ⟨by rw[Ab];omega,by rw[Ab];show(as.length:Int)<=1000000;omega⟩ ?_;rw[B6,Ab,EK];refine eW (λds δ n'=>∃(p:Nat)(re:List Ac)(x3 x4:Option SV),ds=(List.range' p re.length).map (λi=>PyData.int (i:Nat))/\as.drop p=re/\n'=n/\δ=[↑(.tuple (P.map bR)),↑(.int (i:Nat)),↑(.int (L:Nat)),x3,x4]/\match (nJ P w as p re).map λq=>(1+q.1,q.2)with
   |some _=>False
   |none=>Q (.d .none) n) (λδ n' I=>?_) (λd r δ n' N I kN=>?_) _ _ _ ⟨0,as,af,af,rfl,rfl,rfl,rfl,q⟩
  ·obtain⟨p,re,x3,x4,e,hd,rfl,rfl,I⟩:=I;have e':re=[]:=by
    cases re with
    |nil=>rfl
    |cons a r=>simp[List.range']at e
   subst e';exact I
  ·obtain⟨p,re,x3,x4,e,hd,rfl,rfl,I⟩:=I;obtain⟨a,re,rfl⟩:∃a r',re=a::r':=by
    cases re with
    |nil=>simp at e
    |cons a r'=>exact⟨a,r',rfl⟩
   rw[Am,List.range'_succ,A3]at e;obtain⟨rfl,rfl⟩:=Cr e;have hp:as[p]?=ae a:=by
    have:=congrArg (λl:List Ac=>l[0]?) hd;simpa using this
   have hd':as.drop (p+1)=re:=by
    have:=congrArg List.tail hd;rw[List.tail_drop]at this;exact this
   nofun;refine aA (show aT 4 _ _ _ _ from gA (au rfl (au rfl (au rfl ⟨P,i,p,(w,as),a,rfl,hi,wf,hp,?_⟩))));ac_nf;unfold nJ at I;cases hw:iA P (kn w as p) a with
   |none=>
    rw[hw]at I;refine aU (λQ q=>aC (k:=ai) (λQ q=>av (au rfl (aJ q))) q) ?_;exact kN _ _ ⟨p+1,re,_,_,rfl,hd',rfl,rfl,I⟩
   |some k=>
    rw[hw]at I;refine bo (λQ q=>aC (k:=ah) (λQ q=>av (au rfl (aJ q))) q) ?_;exact I
 by_cases h0:i=0/\w≠[]
 ·rw[if_pos h0]at q;exact q.elim
 ·refine aA (aU (λQ q=>eU (a:=decide ((i:Int)=0)) (b:=!(w.map A7).isEmpty) c1 (λ_=>c2) (by
   have:(decide ((i:Int)=0)&&!(w.map A7).isEmpty)=ai:=by
    rw[Bool.and_eq_false_iff];by_cases z:i=0
    ·right;have:w=[]:=Classical.byContradiction λhw=>h0 ⟨z,hw⟩;rw[this];rfl
    ·left;exact decide_eq_false ⋯
   rw[this];exact q)) ?_)
  ac_rfl;exact rest (λ_=>trivial) h0
theorem CV(e:δ[i]?=ae (↑(.int a)))(hw:∀Q:DQ,Q (~~~b) n->w δ n Q)(k:K.nx (δ.set i (↑(.int (a+b)))) n):rW i w δ n K:=⟨a,e,hw _ ⟨b,rfl,k⟩⟩
theorem Sh:bS mi CI ["plan","line","program","block"]:=λws n Q h=>by
 obtain⟨Ps,ns,rfl,wf,hn,q0⟩:=h;have q:match jE ns.length Ps with
  |some _=>False
  |none=>Q (.d .none) n:=by rw[hn];exact q0
 show CI [↑(.tuple [.tuple (Ps.map bE),.tuple ns]),af,af,af] n _;refine aA (dz (x:=.int (ns.length:Nat)) (λQ q=>aZ (gw rfl q)) ?_);ac_nf;unfold bj bN;refine fJ rfl ?_;refine eW (λds δ n'=>∃(re:List (List Bl))(L:Nat)(x2 x3:Option SV),ds=re.map bE/\(∀P∈re,P.length<=100/\∀b∈P,eS b)/\n'=n/\δ=[↑(.tuple [.tuple (Ps.map bE),.tuple ns]),↑(.int (L:Nat)),x2,x3]/\match jE L re with
  |some _=>False
  |none=>Q (.d .none) n) (λδ n' I=>?_) (λd r δ n' N I kN=>?_) _ _ _ ⟨Ps,ns.length,af,af,rfl,wf,rfl,rfl,q⟩
 ·obtain⟨re,L,x2,x3,e,_,rfl,rfl,I⟩:=I;cases C6.mp e.symm;exact I
 ·obtain⟨re,L,x2,x3,e,wf',rfl,rfl,I⟩:=I;obtain⟨P,re,rfl,rfl,rfl⟩:=Da.mp e.symm;have hP:=wf' P Ae;nofun;refine aA (CV rfl (λQ q=>aJ q) ?_);ac_nf;unfold jE at I;unfold dF;refine aZ (au rfl ?_);show(-(2 ^ 62)<=((P.map bR).length:Int)/\((P.map bR).length:Int)<=1000000)/\_;refine An ⟨by rw[Ab];omega,by rw[Ab];omega⟩ ?_;rw[B6,Ab,EK];refine eW (λds δ n1=>∃(i:Nat)(bs:List Bl)(M:Nat)(x3:Option SV),ds=(List.range' i bs.length).map (λi=>PyData.int (i:Nat))/\P.drop i=bs/\n1=n'/\δ=[↑(.tuple [.tuple (Ps.map bE),.tuple ns]),↑(.int (M:Nat)),↑(bE P),x3]/\match (match nk P M i bs with|.inl L'=>jE L' re|.inr q=>ae q)with
   |some _=>False
   |none=>Q (.d .none) n') (λδ n1 I=>?_) (λd r δ n1 N2 I kN2=>?_) _ _ _ ⟨0,P,L+1,x3,rfl,rfl,rfl,by
    have:((L:Int)+1)=((L+1:Nat):Int):=by omega
    rw[this],I⟩
  ·obtain⟨i,bs,M,x3,e,hd,rfl,rfl,I⟩:=I;have e':bs=[]:=by
    cases bs with
    |nil=>rfl
    |cons a r=>simp[List.range']at e
   subst e';exact kN _ _ ⟨re,M,_,_,rfl,λP hP=>wf' P (Af _ hP),rfl,rfl,I⟩
  ·obtain⟨i,bs,M,x3,e,hd,rfl,rfl,I⟩:=I;obtain⟨b,bs,rfl⟩:∃a r',bs=a::r':=by
    cases bs with
    |nil=>simp at e
    |cons a r'=>exact⟨a,r',rfl⟩
   rw[Am,List.range'_succ,A3]at e;obtain⟨rfl,rfl⟩:=Cr e;have hp:P[i]?=ae b:=by
    have:=congrArg (λl:List Bl=>l[0]?) hd;simpa using this
   have hd':P.drop (i+1)=bs:=by
    have:=congrArg List.tail hd;rw[List.tail_drop]at this;exact this
   have hi':(P.map bR)[i]?=ae (bR b):=by rw[Bh,hp];rfl
   nofun;unfold nk at I;cases hr:mC P i b with
   |some kw=>
    rw[hr]at I;exact I.elim
   |none=>
    rw[hr]at I;dsimp only at I ⊢;refine aA (show og _ _ _ _ from gA (au rfl (au rfl (au rfl ⟨P,i,b,M,rfl,hp,hP.2 b (D4 hp),hr,?_⟩))));refine CV (b:=((1+b.2.length:Nat):Int)) rfl (λQ q=>av (aJ (aZ (av (av (au rfl (au rfl (eZ hi' (aJ (gj (fM ?_)))))))))) ) ?_
    ·have e2:((1+b.2.length:Nat):Int)=1+(((b.2.map Ac.d).length:Nat):Int):=by rw[Ab];omega
     rw[e2]at q;exact q
    ·ac_nf;rw[<-Int.natCast_add];exact kN2 _ _ ⟨i+1,bs,M+(1+b.2.length),_,rfl,hd',rfl,rfl,I⟩
theorem GK(a b:Nat):([a] < [b])↔a < b:=by
 constructor
 ·intro h;cases h with
  |rel h=>exact h
  |cons h=>cases h
 ·exact λh=>.rel h
theorem fig_iff:bH c=ah↔48<=c/\c<=57:=by
 unfold bH;have e1:("0":Str).cps.toList=[48]:=by decide +kernel
 have e2:("9":Str).cps.toList=[57]:=by decide +kernel
 rw[e1,e2,Ak,Bool.not_eq_true',Bool.not_eq_true',decide_eq_false_iff_not,decide_eq_false_iff_not,GK,GK];omega
def lK:Aa->Bool
 |.str y=>!decide (y.cps.toList < ("0":Str).cps.toList)&&!decide (("9":Str).cps.toList < y.cps.toList)
 |_=>ai
theorem WK(x:Str):(ig x).all lK=x.cps.toList.all bH:=by
 unfold ig;rw[Ep];rfl
theorem WE(e:δ[i]?=ae (↑(.str b)))(k:Q (.d (.bool (!decide (b.cps.toList < a.cps.toList)&&!decide (c.cps.toList < b.cps.toList)))) n):cV dA dA (wC (.str a)) (aj i) (wC (.str c)) δ n Q:=by
 refine(show wC (.str a) δ n λx n1=>aj i δ n1 λy n2=>dA x y n2 λz n3=>iS z (wC (.str c) δ n3 λu n4=>dA y u n4 Q) (Q (.d (.bool ai)) n3)from aJ (au e ?_));show iS (.d (.bool (!decide (b.cps.toList < a.cps.toList)))) _ _;cases h:!decide (b.cps.toList < a.cps.toList)with
 |true=>rw[h,Cm]at k;exact k
 |false=>rw[h,E2]at k;exact k
theorem Sn{Q:DQ}(x:Str)(h:Q (.d (.bool (x.cps.toList.all bH))) n):cM (aF 0) aQ (cV dA dA ⇑"0" ↥0 ⇑"9")
  (λds n1=>match fe ds with|some bs=>Q (.d (.bool (bs.all id))) n1|none=>False) (ig x) [] [af] n:=by
 refine kI lJ (λd=>.bool (lK d)) ?_ _ _ _ _ (Lk x) ?_
 ·rintro d n Q' ⟨c,rfl⟩ k
  exact WE rfl k
 ·show match fe ((ig x).map λd=>.bool (lK d))with|some bs=>Q (.d (.bool (bs.all id))) n|none=>False
  simp only[mh,pK,WK];exact h
theorem str_nil{x:Str}:x=""↔x.cps.toList=[]:=by
 obtain⟨⟨l⟩⟩:=x
 constructor
 ·intro h;rw[h];rfl
 ·intro h;have h:l=[]:=h;subst h;rfl
theorem Se:bS si HX ["text"]:=λws n Q h=>by
 obtain⟨x,rfl,q⟩:=h;show HX [↑(.str x)] n _;refine aY (b8 (a:=!x.cps.toList.isEmpty) (b:=x.cps.toList.all bH) (λQ q=>av (au rfl (aJ ?_))) (λ_ Q q=>aZ (bf ?_)) q)
 ·show(match nA (.str x) (.str "")with|some r=>Q (.d (.bool r)) n|none=>False);have e:nA (.str x) (.str "")=ae (!x.cps.toList.isEmpty):=by
   show ae (!decide (x=""))=_
   congr 2
   cases h:x.cps.toList with
   |nil=>exact decide_eq_true (str_nil.mpr h)
   |cons a r=>exact decide_eq_false λz=>by rw[str_nil.mp z]at h;cases h
  rw[e];exact q
 ·unfold bB fc;refine au rfl ?_;exact Sn x q
theorem zR:∀c,c < 10->intText? ⟨#[48+c]⟩=ae (c:Int)/\Bt (C4 (c:Int))=⟨#[48+c]⟩:=by decide +kernel
theorem vx:∀c,c < 10->∀d,d < 10->intText? ⟨#[48+c,48+d]⟩=ae ((10*c+d:Nat):Int)/\decide (Bt (C4 ((10*c+d:Nat):Int))=⟨#[48+c,48+d]⟩)=decide (48+c≠48):=by decide +kernel
theorem Kz{m:Nat}(h:m<=99):((m:Int).natAbs.log2 < 1920/\(Bt (C4 (m:Int))).length<=1000):=by
 have:∀m:Nat,m < 100->((m:Int).natAbs.log2 < 1920/\(Bt (C4 (m:Int))).length<=1000):=by decide +kernel
 exact this m ⋯
theorem Ys:bS ph rl ["text","number"]:=λws n Q h=>by
 obtain⟨x,rfl,q⟩:=h;show rl [↑(.str x),af] n _;have e99:(Bt (C4 (99:Int))).length=2:=by decide +kernel
 have c1:∀Q:Bool->Int->Prop,Q (decide (2 < x.length)) n->cT (w2 (wB aP (ao ↥0 ak)) (wB aP (ao (wB cm (ao ⇑99 ak)) ak)) k7) [↑(.str x),af] n Q:=λQ q=>aC (k:=decide (2 < x.length)) (λQ q=>av (aZ (au rfl (show aP [.d (.str x)] n _ from aZ (aZ (aJ (show cm [.d (.int 99)] n _ from An (Kz (m:=99) (Ay _)) ?_))))))) q
 rotate_left
 ·show Q (.d (.bool (decide (((Bt (C4 (99:Int))).length:Int) < (x.length:Int))))) n;rw[e99];have:decide (((2:Nat):Int) < (x.length:Int))=decide (2 < x.length):=by
   by_cases h:2 < x.length
   ·rw[decide_eq_true h,decide_eq_true ⋯]
   ·rw[decide_eq_false h,decide_eq_false ⋯]
  rw[this];exact q
 have c2:∀Q:Bool->Int->Prop,Q (!gQ x) n->bw (cT (az si (ao ↥0 ak))) [↑(.str x),af] n Q:=λQ q=>gE (k:=gQ x) (λQ q=>aC (λQ q=>aW (au rfl ⟨x,rfl,q⟩)) q) q;obtain⟨⟨l⟩⟩:=x;have out:gW l=af->(decide (2 < (⟨⟨l⟩⟩:Str).length) || !gQ ⟨⟨l⟩⟩)=ah->rl [↑(.str ⟨⟨l⟩⟩),af] n {nx:=λ_ n=>Q (.d .none) n,rt:=Q}:=λh1 h2=>by
  refine aA (bo (λQ q=>cn (a:=decide (2 < (⟨⟨l⟩⟩:Str).length)) (b:=!gQ ⟨⟨l⟩⟩) c1 (λ_=>c2) (by rw[h2];exact q)) (aY (aJ ?_)));have q':Q (.d (gq (gW l))) n:=q;rw[h1]at q';exact q'
 have inn:∀(m:Nat)(b:Bool),(decide (2 < (⟨⟨l⟩⟩:Str).length) || !gQ ⟨⟨l⟩⟩)=ai->intText? ⟨⟨l⟩⟩=ae (m:Int)->m<=99->l.length<=2->decide (Bt (C4 (m:Int))=⟨⟨l⟩⟩)=b->gW l=(if b=ah then ae m else af)->rl [↑(.str ⟨⟨l⟩⟩),af] n {nx:=λ_ n=>Q (.d .none) n,rt:=Q}:=λm b h2 h3 hm hl h4 h5=>by
  refine aA (aU (λQ q=>cn (a:=decide (2 < (⟨⟨l⟩⟩:Str).length)) (b:=!gQ ⟨⟨l⟩⟩) c1 (λ_=>c2) (by rw[h2];exact q)) ?_);ac_rfl;refine aA (dz (x:=.int (m:Int)) (λQ q=>aZ (au rfl ?_)) ?_)
  ·show(match intText? ⟨⟨l⟩⟩with|some m=>(⟨⟨l⟩⟩:Str).length<=640/\Q (~~~m) n|none=>False);rw[h3];exact⟨A4 hl ∎,q⟩
  ac_nf;have q':Q (.d (gq (gW l))) n:=q;rw[h5]at q';refine aY (hX (b:=b) (λQ q=>aC (k:=b) (λQ q=>av (aZ (au rfl (show cm [.d (.int m)] n _ from An (Kz hm) (au rfl ?_))))) q) ?_)
  ·show(match jH (.str (Bt (C4 (m:Int)))) (.str ⟨⟨l⟩⟩)with|some r=>Q (.d (.bool r)) n|none=>False);rw[show jH (.str (Bt (C4 (m:Int)))) (.str ⟨⟨l⟩⟩)=ae (decide (Bt (C4 (m:Int))=⟨⟨l⟩⟩))from rfl,h4];exact q
  ·cases b with
   |true=>grind;exact au rfl q'
   |false=>rw[if_neg Al];exact aJ q'
 match l with
 |[]=>exact out rfl rfl
 |[c]=>
  by_cases h:bH c=ah
  ·have hc:=fig_iff.mp h;obtain⟨e1,e2⟩:=zR (c-48) ⋯;have hc':48+(c-48)=c:=by omega
   rw[hc']at e1 e2;refine inn (c-48) ah ?_ e1 ⋯ (show 1<=2 by decide) (by rw[e2];exact decide_eq_true rfl) ?_
   ·show(ai || !(ah&&(bH c&&ah)))=ai;rw[h];rfl
   ·show(if bH c=ah then ae (c-48)else af)=ae (c-48);rw[if_pos h]
  ·have h':=Fq.mpr h;refine out ?_ ?_
   ·show(if bH c=ah then ae (c-48)else af)=af;rw[if_neg h]
   ·show(ai || !(ah&&(bH c&&ah)))=ah;rw[h'];rfl
 |[c,d]=>
  by_cases h:(bH c&&bH d)=ah
  ·rw[Ak]at h;have hc:=fig_iff.mp h.1;have hd:=fig_iff.mp h.2;obtain⟨e1,e2⟩:=vx (c-48) ⋯ (d-48) ⋯;have hc':48+(c-48)=c:=by omega
   have hd':48+(d-48)=d:=by omega
   rw[hc',hd']at e1 e2;refine inn (10*(c-48)+(d-48)) (decide (c≠48)) ?_ e1 ⋯ (show 2<=2 by decide) e2 ?_
   ·show(ai || !(ah&&(bH c&&(bH d&&ah))))=ai;rw[h.1,h.2];rfl
   ·show(if (bH c&&bH d&&decide (c≠48))=ah then ae (10*(c-48)+(d-48))else af)=_;rw[h.1,h.2,Cm,Cm]
  ·have h':=Fq.mpr h;refine out ?_ ?_
   ·show(if (bH c&&bH d&&decide (c≠48))=ah then ae (10*(c-48)+(d-48))else af)=af;rw[h',E2];rfl
   ·show(ai || !(ah&&(bH c&&(bH d&&ah))))=ah;rw[Bool.and_true,h'];rfl
 |a::b::c::r=>
  refine out rfl ?_;have e:decide (2 < (⟨⟨a::b::c::r⟩⟩:Str).length)=ah:=decide_eq_true (show 2 < r.length+1+1+1 by omega);rw[e];rfl
theorem OE:bS sI JI ["text"]:=λws n Q h=>by
 obtain⟨x,rfl,q⟩:=h;show JI [↑(.str x)] n _;refine aY (hX (b:=aO 8 (.str x)) (λQ q=>aC (λQ q=>aW (au rfl q)) q) ?_);unfold cx at q;cases h:aO 8 (.str x)with
 |true=>rw[if_pos h]at q;grind;exact au rfl q
 |false=>rw[if_neg (by rw[h];decide)]at q;rw[if_neg Al];exact aW (au rfl ⟨x,rfl,q⟩)
theorem Rj(c)(z):Txt.startswith z ⟨#[c]⟩=fO c z:=by
 unfold Txt.startswith fO;rw[StrLaws.subAt_eq];obtain⟨⟨l⟩⟩:=z;cases l with
 |nil=>rfl
 |cons a r=>
  show(decide (0+1<=r.length+1)&&_)=decide (a=c);rw[decide_eq_true ⋯,Cm];show((List.drop 0 (a::r)).take 1==[c])=decide (a=c);by_cases h:a=c
  ·subst h;simp
  ·rw[decide_eq_false h];simp[h]
theorem X3(z):Txt.slice z (ae 1) af=eE z:=by
 obtain⟨⟨l⟩⟩:=z;cases l with
 |nil=>decide +kernel
 |cons a r=>
  have h:=StrLaws.sliceText_from (x:=⟨⟨a::r⟩⟩) (i:=1) ⟨by decide,by show(1:Int)<=((a::r).length:Int);rw[Am];omega⟩;have e:Txt.slice ⟨⟨a::r⟩⟩ (ae 1) af=StrLaws.sliceText ⟨⟨a::r⟩⟩ (ae 1) af:=rfl;rw[e,h];unfold eE;show(⟨((List.drop (1:Int).toNat (a::r)).take (((a::r).length:Int)-1).toNat).toArray⟩:Str)=⟨(List.drop 1 (a::r)).toArray⟩;have:(((a::r).length:Int)-1).toNat=r.length:=by rw[Am];omega
  rw[this];show(⟨(List.take r.length r).toArray⟩:Str)=⟨r.toArray⟩;rw[F0]
section
variable{δ:Sl}{n:Int}{Q:DQ}{i:Nat}{x:Str}
theorem sY(e:δ[i]?=ae (↑(.str x)))(k:Q (.d (.str (eE x))) n):ia (aj i) ⇑1 δ n Q:=by
 refine(show aj i δ n _ from au e ?_);show Q (.d (.str (Txt.slice x (ae 1) af))) n;rw[X3];exact k
theorem pC(e:δ[i]?=ae (↑(.str x)))(hz:z=⟨#[c]⟩)(hw:∀Q:DQ,Q (.d (.str z)) n->w δ n Q)(k:Q (.d (.bool (fO c x))) n):jZ (aj i) w δ n Q:=by
 subst hz;refine(show aj i δ n _ from au e (hw _ ?_));show Q (.d (.bool (Txt.startswith x ⟨#[c]⟩))) n;rw[Rj];exact k
theorem Iz{D:List (Str×Str)}(hw:∀Q:DQ,Q (.d (.str s)) n->w δ n Q)(e:Bj s D=ae v)(hl:v.length<=1000)(k:Q (.d (.str v)) n):dE D w δ n Q:=hw _ (by
 show(match Bj s D with|some s=>s.length<=1000/\Q (.d (.str s)) n|none=>False);rw[e];exact⟨hl,k⟩)
theorem AA(e:δ[i]?=ae (↑(.str x)))(k:Q (.d (.bool (aO 4 (.str (eE x))))) n):az (aI (aO 4)) (ao (ia (aj i) ⇑1) ak) δ n Q:=aW (sY e k)
theorem su(k:w δ n λx n1=>match dO [x]with
  |some ds=>ds.length<=1000/\Q ‹ds› n1
  |none=>False):aB (ao w ak) δ n Q:=k
theorem LB(k:K.nx δ n):c6 g W K [] δ n:=k
theorem CT(k:c6 g W K (ks.map .str) δ n):bj (tO ks) g W δ n K:=k
theorem V7(k:Q (.d (.bool (decide (a=b)))) n):bA (.d (.str a)) (.d (.str b)) n Q:=k
theorem xf{b:Bool}(k:Q (.d (.bool (dU d))) n):bz ai (.d d) (.d .none) n Q:=by cases d<;>exact k
end
theorem Qe:bS wH vU ["text","head","value"]:=λws n Q h=>by
 obtain⟨x,rfl,q⟩:=h;show vU [↑(.str x),af,af] n _
 have bare:∀(h s:Str)(rest:List Aa)(K:DEnds)(y:Option SV),Bj h ([("any","?"),("word","$"),("number","#")]:List (Str×Str))=ae s->s.length<=1000->h.length<=1000->(x=s->K.rt ‹[.str h]› n)->(x≠s->c6 (aF 1) (aX (cT ⇑1004) (aw (aB (ao ↥1 ak))) aG) K rest [↑(.str x),↑(.str h),af] n)->
   c6 (aF 1) (aX (cT ⇑1004) (aw (aB (ao ↥1 ak))) aG) K (.str h::rest) [↑(.str x),y,af] n:=λh s rest K y hs hl hh yes no=>by
  show aX (cT ⇑1004) (aw (aB (ao ↥1 ak))) aG [↑(.str x),↑(.str h),af] n _;have c:∀Q:Bool->Int->Prop,Q (decide (x=s)) n->cT ⇑1004 [↑(.str x),↑(.str h),af] n Q:=λQ q=>aC (λQ q=>av (au rfl (Iz (λQ q=>au rfl q) hs hl (V7 q)))) q;by_cases e:x=s
  ·exact bo (λQ q=>c Q (by rw[decide_eq_true e];exact q)) (aY (su (au rfl (An (show 1<=1000 by decide) (yes e)))))
  ·exact aU (λQ q=>c Q (by rw[decide_eq_false e];exact q)) (no e)
 have name:∀(h s:Str)(cc:Nat)(rest:List Aa)(K:DEnds)(y:Option SV),Bj h ([("bind","?"),("as","="),("next","+")]:List (Str×Str))=ae s->s=⟨#[cc]⟩->h.length<=1000->((fO cc x&&aO 4 (.str (eE x)))=ah->K.rt ‹[.str h,.str (eE x)]› n)->((fO cc x&&aO 4 (.str (eE x)))=ai->c6 (aF 1) (aX ⇑1001 ⇑1012 aG) K rest [↑(.str x),↑(.str h),af] n)->
   c6 (aF 1) (aX ⇑1001 ⇑1012 aG) K (.str h::rest) [↑(.str x),y,af] n:=λh s cc rest K y hs hc hh yes no=>by
  have hl:s.length<=1000:=by rw[hc];exact(show 1<=1000 by decide)
  show aX ⇑1001 ⇑1012 aG [↑(.str x),↑(.str h),af] n _;have c:∀Q:Bool->Int->Prop,Q (fO cc x&&aO 4 (.str (eE x))) n->df (cT (jZ ↥0 ⇑1006)) (cT (az (aI (aO 4)) (ao (ia ↥0 ⇑1) ak))) [↑(.str x),↑(.str h),af] n Q:=λQ q=>eU (a:=fO cc x) (b:=aO 4 (.str (eE x))) (λQ q=>aC (λQ q=>pC rfl hc (λQ q=>Iz (λQ q=>au rfl q) hs hl q) q) q) (λ_ Q q=>aC (λQ q=>AA rfl q) q) q;cases e:fO cc x&&aO 4 (.str (eE x))with
  |true=>exact bo (λQ q=>c Q (by rw[e];exact q)) (aY (dD (au rfl (sY rfl (An (show 2<=1000 by decide) (yes e))))))
  |false=>exact aU (λQ q=>c Q (by rw[e];exact q)) (no e)
 unfold d9 at q;unfold vU;refine aA (CT ?_);refine bare "any" "?" _ _ _ ∅ ∅ ∅ (λe=>by rw[if_pos e]at q;exact q) λn1=>?_;rw[if_neg n1]at q;refine bare "word" "$" _ _ _ ∅ ∅ ∅ (λe=>by rw[if_pos e]at q;exact q) λn2=>?_;rw[if_neg n2]at q;refine bare "number" "#" _ _ _ ∅ ∅ ∅ (λe=>by rw[if_pos e]at q;exact q) λn3=>?_;rw[if_neg n3]at q;refine LB (aA (CT ?_));refine name "bind" "?" 63 _ _ _ ∅ ∅ ∅ (λe=>by rw[if_pos e]at q;exact q) λn4=>?_;rw[if_neg (by rw[n4];decide)]at q;refine name "as" "=" 61 _ _ _ ∅ ∅ ∅ (λe=>by rw[if_pos e]at q;exact q) λn5=>?_;rw[if_neg (by rw[n5];decide)]at q;refine name "next" "+" 43 _ _ _ ∅ ∅ ∅ (λe=>by rw[if_pos e]at q;exact q) λn6=>?_;rw[if_neg (by rw[n6];decide)]at q;refine LB ?_;dsimp only;refine aA (dz (x:=cx x) (λQ q=>aW (au rfl ⟨x,rfl,q⟩)) ?_);ac_nf;refine aY (hX (b:=dU (cx x)) (λQ q=>aC (λQ q=>av (au rfl (aJ (xf (b:=ai) q)))) q) ?_);unfold uQ at q;cases h:dU (cx x)with
 |true=>
  rw[if_pos h]at q;grind;exact aJ q
 |false=>
  rw[if_neg (by rw[h];decide)]at q;rw[if_neg Al];exact dD (aJ (au rfl (An (show 2<=1000 by decide) q)))
theorem LP:bS AV K1 ["text","age"]:=λws n Q h=>by
 obtain⟨x,rfl,q⟩:=h;show K1 [↑(.str x),af] n _;unfold hU at q;have rest:∀(d:Aa),(Q (.d (if cj d=ah then d else .none)) n)->(aw (eQ (cT (az (aI cj) (ao ↥1 ak))) ↥1 (wC .none))) [↑(.str x),↑d] n {nx:=λ_ n=>Q (.d .none) n,rt:=Q}:=λd k=>by
  refine aY (hX (b:=cj d) (λQ q=>aC (λQ q=>aW (au rfl q)) q) ?_);cases e:cj d with
  |true=>rw[if_pos e]at k;grind;exact au rfl k
  |false=>rw[if_neg (by rw[e];decide)]at k;rw[if_neg Al];exact aJ k
 cases e:fO 64 x with
 |true=>
  rw[if_pos e]at q;exact aA (dz (x:=fk (eE x)) (λQ q=>hX (b:=ah) (λQ q=>aC (k:=ah) (λQ q=>pC (c:=64) rfl ∅ (λQ q=>aJ q) (by rw[e];exact q)) q) (by grind;exact aW (sY rfl ⟨eE x,rfl,q⟩))) (rest _ q))
 |false=>
  rw[if_neg (by rw[e];decide)]at q;exact aA (dz (x:=.none) (λQ q=>hX (b:=ai) (λQ q=>aC (k:=ai) (λQ q=>pC (c:=64) rfl ∅ (λQ q=>aJ q) (by rw[e];exact q)) q) (by rw[if_neg Al];exact aJ q)) (rest .none (by rw[ite_self];exact q)))
theorem Xs:bS yK La ["text"]:=λws n Q h=>by
 obtain⟨x,rfl,q⟩:=h;show La [↑(.str x)] n _;unfold m8 at q;cases e:fO 62 x with
 |true=>
  rw[if_pos e]at q;exact aY (hX (b:=ah) (λQ q=>aC (k:=ah) (λQ q=>pC (c:=62) rfl ∅ (λQ q=>aJ q) (by rw[e];exact q)) q) (by grind;exact aW (sY rfl ⟨eE x,rfl,q⟩)))
 |false=>
  rw[if_neg (by rw[e];decide)]at q;exact aY (hX (b:=ai) (λQ q=>aC (k:=ai) (λQ q=>pC (c:=62) rfl ∅ (λQ q=>aJ q) (by rw[e];exact q)) q) (by rw[if_neg Al];exact aJ q))
def Hw.no:Hw->Nat
 |.note=>0
 |.hand=>1
 |.block=>2
 |.lay=>3
 |.take=>4
 |.read=>5
 |.look=>6
 |.same=>7
 |.go=>8
theorem mL(h:Hw):b7 "note" (.str h.s)=decide (h.no=0):=by cases h<;>decide +kernel
theorem sJ(h:Hw):b7 "block" (.str h.s)=decide (h.no=2):=by cases h<;>decide +kernel
theorem EH(h:Hw):b7 "lay" (.str h.s)=decide (h.no=3):=by cases h<;>decide +kernel
theorem Ma(h:Hw):b7 "same" (.str h.s)=decide (h.no=7):=by cases h<;>decide +kernel
theorem IJ(h:Hw):bG (.str h.s) [.str "take",.str "read",.str "look"]=decide (4<=h.no/\h.no<=6):=by cases h<;>decide +kernel
theorem I0(h:Hw):bG (.str h.s) [.str "hand",.str "block"]=decide (1<=h.no/\h.no<=2):=by cases h<;>decide +kernel
theorem KG(h:Hw):bG (.str h.s) [.str "lay",.str "look"]=decide (h.no=3\/h.no=6):=by cases h<;>decide +kernel
theorem HM(h:Hw):bG (.str h.s) [.str "take",.str "read"]=decide (h.no=4\/h.no=5):=by cases h<;>decide +kernel
theorem EZ(h:Hw):bG (.str h.s) ((["note","lay"]:List Str).map .str)=h.aged:=by cases h<;>decide +kernel
theorem FQ(h:Hw):bG (.str h.s) ((Zc:List Str).map .str)=h.leads:=by cases h<;>decide +kernel
abbrev Kt:List (Str×Int):=[("note",1),("hand",0),("block",0),("lay",1),("take",1),("read",1),("look",1),("same",2),("go",0)]
theorem JS(h:Hw):Bj h.s Kt=ae (h.least:Int):=by cases h<;>decide +kernel
section
variable{δ:Sl}{n:Int}{Q:DQ}{K:DEnds}{W V:aL}{i j:Nat}
theorem cL(e:δ[i]?=ae (↑(.str h)))(hb:b7 g (.str h)=b):∀Q:Bool->Int->Prop,Q b n->cT (w2 (aj i) (wC (.str g)) bA) δ n Q:=λQ q=>aC (k:=b) (λQ q=>Jj e (by rw[hb];exact q)) q
theorem nE(e:δ[i]?=ae (↑(.str h)))(hb:bG (.str h) [.str a,.str b]=r):∀Q:Bool->Int->Prop,Q r n->cT (w2 (aj i) (aB (ao (wC (.str a)) (ao (wC (.str b)) ak))) (gn ai)) δ n Q:=λQ q=>by
 refine av (au e (dD (aJ (aJ (An (show 2<=1000 by decide) ?_)))));refine⟨rfl,rfl,?_⟩;show Q (bG (.str h) [.str a,.str b]) n;rw[hb];exact q
theorem LD(e:δ[i]?=ae (↑(.str h)))(hb:bG (.str h) [.str a,.str b,.str c]=r):∀Q:Bool->Int->Prop,Q r n->cT (w2 (aj i) (aB (ao (wC (.str a)) (ao (wC (.str b)) (ao (wC (.str c)) ak)))) (gn ai)) δ n Q:=λQ q=>by
 refine av (au e (sP (aJ (aJ (aJ (An (show 3<=1000 by decide) ?_))))));refine⟨rfl,rfl,?_⟩;show Q (bG (.str h) [.str a,.str b,.str c]) n;rw[hb];exact q
theorem Hy{D:List (Str×Int)}(hw:∀Q:DQ,Q (.d (.str s)) n->w δ n Q)(e:Bj s D=ae v)(k:Q (~~~v) n):oz D w δ n Q:=hw _ (by
 show(match Bj s D with|some s=>Q (~~~s) n|none=>False);rw[e];exact k)
theorem ra(e:δ[i]?=ae (↑(fU h r)))(k:Q (.d (.str h.s)) n):w2 (aj i) ⇑0 aD δ n Q:=by
 refine av (au e (aJ ?_));show(match cF (A7 h.s::r.map .str) 0 with|some d=>Q (.d d) n|none=>False);rw[oX];exact k
theorem Jt(e:δ[i]?=ae (↑(fU h r)))(k:Q (~~~((r.length+1:Nat):Int)) n):wB aP (ao (aj i) ak) δ n Q:=by
 refine aZ (au e ?_);show Q (~~~(((A7 h.s::r.map .str).length:Nat):Int)) n;rw[Am,Ab];exact k
end
theorem Pb:bS AG Lm ["head","word"]:=λws n Q h=>by
 obtain⟨h,w,rfl,q⟩:=h;show Lm [↑(.str h.s),↑(.str w)] n _;by_cases h2:h.no=2
 ·refine aA (bo (cL rfl ((sJ h).trans (decide_eq_true h2))) (aY (au rfl ?_)));cases h<;>first|exact q|cases h2
 ·refine aA (aU (cL rfl ((sJ h).trans (decide_eq_false h2))) ?_);ac_rfl;by_cases h0:h.no=0
  ·refine aY (hX (b:=ah) (cL rfl ((mL h).trans (decide_eq_true h0))) ?_);grind;refine aW (au rfl ⟨w,rfl,?_⟩);cases h<;>first|exact q|cases h0
  ·refine aY (hX (b:=ai) (cL rfl ((mL h).trans (decide_eq_false h0))) ?_);rw[if_neg Al];refine aW (au rfl ⟨w,rfl,?_⟩);cases h<;>first|exact q|exact absurd rfl h0|exact absurd rfl h2
theorem MU:bS tG KL ["head","parts"]:=λws n Q h=>by
 obtain⟨h,ps,rfl,q⟩:=h;show KL [↑(.str h.s),↑(.tuple ps)] n _;by_cases h0:h.no=0
 ·refine aA (bo (cL rfl ((mL h).trans (decide_eq_true h0))) (aY (aW (au rfl ?_))));cases h<;>first|exact q|cases h0
 refine aA (aU (cL rfl ((mL h).trans (decide_eq_false h0))) ?_);ac_rfl;by_cases h2:h.no=2
 ·refine aA (bo (cL rfl ((sJ h).trans (decide_eq_true h2))) (aY (aW (au rfl ?_))));cases h<;>first|exact q|cases h2
 refine aA (aU (cL rfl ((sJ h).trans (decide_eq_false h2))) ?_);ac_rfl;by_cases h3:h.no=3
 ·refine aA (bo (cL rfl ((EH h).trans (decide_eq_true h3))) (aY (aW (au rfl ?_))));cases h<;>first|exact q|cases h3
 refine aA (aU (cL rfl ((EH h).trans (decide_eq_false h3))) ?_);ac_rfl;by_cases h4:4<=h.no/\h.no<=6
 ·refine aA (bo (LD rfl ((IJ h).trans (decide_eq_true h4))) (aY (aW (au rfl ?_))));cases h<;>first|exact q|exact absurd h4 ∎
 refine aA (aU (LD rfl ((IJ h).trans (decide_eq_false h4))) ?_);ac_rfl;have c7:∀Q:DQ,Q (.d (.bool (decide (h.no=7)))) n->w2 ↥0 ⇑"same" bA [↑(.str h.s),↑(.tuple ps)] n Q:=λQ q=>Jj rfl (by rw[Ma];exact q);by_cases h7:h.no=7
 ·refine aY (b8 (a:=ah) (b:=decide ((ps.length:Int)<=2)&&ps.all cv) (λQ q=>c7 Q (by rw[decide_eq_true h7];exact q)) (λ_ Q q=>b8 (a:=decide ((ps.length:Int)<=2)) (b:=ps.all cv) (λQ q=>av (fG rfl (aJ q))) (λ_ Q q=>aZ (bf (gY (λQ q=>au rfl q) ?_))) q) ?_)
  ·refine kI (λ_=>True) (λd=>.bool (cv d)) (λd n Q' _ k=>aW (au rfl k)) _ _ _ _ (λ_ _=>trivial) ?_;show match fe (ps.map λd=>.bool (cv d))with|some bs=>Q (.d (.bool (bs.all id))) n|none=>False
   simp only[mh,pK];exact q
  ·cases h<;>first|exact q|cases h7
 ·refine aY (b8 (a:=ai) (b:=ah) (λQ q=>c7 Q (by rw[decide_eq_false h7];exact q)) (λz=>nomatch z) ?_);cases h<;>first|exact q|exact absurd rfl h0|exact absurd rfl h2|exact absurd rfl h3|exact absurd rfl h7|exact absurd ∎ h4
theorem IA(h):∀(r:List Str)(acc:List Aa),(dB h acc r).length<=acc.length+r.length
 |[],acc=>Ay _
 |w::r,acc=>by
  unfold dB
  split
  ·have:=IA h r (acc++[fg h w]);rw[Ah,As]at this;rw[Am];omega
  ·omega
theorem Us:bS xY FJ ["words","parts","word","longer"]:=λws n Q h=>by
 obtain⟨h,r,rfl,hr,q⟩:=h;show FJ [↑(fU h r),af,af,af] n _;refine aA (dz (x:=.tuple []) (λQ q=>kW q) ?_);ac_nf;refine aA ?_;unfold bj eY wZ;refine au rfl ?_;dsimp only[cJ,cg];refine aJ ?_;dsimp only;have cut:bI (Ea A7 (h.s::r)) (ae 1) af=r.map .str:=by
  unfold bI;have e1:HT.sIx (Ea A7 (h.s::r)).length 0 (ae 1)=1:=by
   have:=HT.sIx_nat (Ea A7 (h.s::r)).length 0 1;rw[show((1:Nat):Int)=1 from rfl]at this;rw[this,A3,Am];omega
  have e2:HT.sIx (Ea A7 (h.s::r)).length (Ea A7 (h.s::r)).length af=(Ea A7 (h.s::r)).length:=rfl;rw[e1,e2,A3,List.drop_succ_cons,List.drop_zero,Am,Nat.add_sub_cancel,F0]
 rw[cut];refine eW (λds δ n'=>∃(re:List Str)(acc:List Aa)(x2 x3:Option SV),ds=re.map .str/\acc.length+re.length<=900/\n'=n/\δ=[↑(fU h r),↑(.tuple acc),x2,x3]/\Q ‹(dB h acc re)› n) (λδ n' I=>?_) (λd ds δ n' N I kN=>?_) _ _ _ ⟨r,[],af,af,rfl,by simpa using hr,rfl,rfl,q⟩
 ·obtain⟨re,acc,x2,x3,e,hl,rfl,rfl,I⟩:=I;cases C6.mp e.symm;dsimp only;exact aY (au rfl I)
 ·obtain⟨re,acc,x2,x3,e,hl,rfl,rfl,I⟩:=I;obtain⟨w,re,rfl,rfl,rfl⟩:=Da.mp e.symm;rw[Am]at hl;nofun;have addE:∀(Q:DQ),Q ‹(acc++[fg h w])› n'->iQ ‹acc› ‹[fg h w]› n' Q:=λQ q=>by
   cases acc with
   |nil=>exact q
   |cons a as=>exact⟨.inl (λz=>nomatch z),A4 (show(a::as).length+1<=1000 by omega) ∎,q⟩
  refine aA (dz (x:=.tuple (acc++[fg h w])) (λQ q=>av (au rfl (su (dZ (ra rfl (au rfl ⟨h,w,rfl,An (show 1<=1000 by decide) (addE Q q)⟩)))))) ?_);ac_nf;have cb:∀Q:Bool->Int->Prop,Q (eF h (acc++[fg h w])) n'->cT (az tG (ao (w2 ↥0 ⇑0 aD) (ao ↥3 ak))) [↑(fU h r),↑(.tuple acc),↑(.str w),↑(.tuple (acc++[fg h w]))] n' Q:=λQ q=>aC (λQ q=>dZ (ra rfl (au rfl ⟨h,_,rfl,q⟩))) q;unfold dB at I;cases hb:eF h (acc++[fg h w])with
  |true=>
   rw[if_pos hb]at I;refine aA (PY (λQ q=>cb Q (by rw[hb];exact q)) ?_);ac_rfl;refine dz (λQ q=>au rfl q) ?_;ac_nf;exact kN _ _ ⟨re,acc++[fg h w],_,_,rfl,by rw[Ah,As];omega,rfl,rfl,I⟩
  |false=>
   rw[if_neg (by rw[hb];decide)]at I;exact aA (bo (λQ q=>gE (k:=ai) (λQ q=>cb Q (by rw[hb];exact q)) q) (aY (au rfl I)))
theorem Im(e:δ[i]?=ae (↑(fU h r)))(e2:δ[j]?=ae (↑(.int (m:Nat))))(hw:r[m]?=ae w)(k:Q (.d (.str w)) n):w2 (aj i) (w2 (aj j) ⇑1 (dN λi j=>.int (i+j))) aD δ n Q:=by
 refine av (au e (av (au e2 (aJ (fM ?_)))));show(match cF (A7 h.s::r.map .str) ((m:Int)+1)with|some d=>Q (.d d) n|none=>False);have e3:(A7 h.s::r.map .str)[m+1]?=ae (.str w):=by rw[Bm,Bh,hw];rfl
 rw[show((m:Int)+1)=((m+1:Nat):Int) by omega,fX e3];exact k
theorem Ro:bS vj JX ["words","many","head"]:=λws n Q h=>by
 obtain⟨h,r,m,rfl,hm,q⟩:=h;show JX [↑(fU h r),↑(.int (m:Nat)),af] n _;refine aA (dz (x:=.str h.s) (λQ q=>ra rfl q) ?_);ac_nf;have c1:∀Q:Bool->Int->Prop,Q (decide ((m:Int) < (h.least:Int))) n->cT (w2 ↥1 (oz Kt ↥2) eV) [↑(fU h r),↑(.int (m:Nat)),↑(.str h.s)] n Q:=λQ q=>aC (λQ q=>av (au rfl (Hy (λQ q=>au rfl q) (JS h) q))) q;have c2:∀Q:Bool->Int->Prop,Q (decide ((m:Int)+1=((r.length+1:Nat):Int))) n->cT (w2 (w2 ↥1 ⇑1 (dN λi j=>.int (i+j))) (wB aP (ao ↥0 ak)) bA) [↑(fU h r),↑(.int (m:Nat)),↑(.str h.s)] n Q:=λQ q=>aC (λQ q=>av (av (au rfl (aJ (fM (Jt rfl (Ky q)))))) ) q;unfold i7 at q;by_cases h0:m < h.least\/m=r.length
 ·rw[if_pos h0]at q;refine aA (bo (λQ q=>cn (a:=decide ((m:Int) < (h.least:Int))) (b:=decide ((m:Int)+1=((r.length+1:Nat):Int))) c1 (λ_=>c2) (by
   have:(decide ((m:Int) < (h.least:Int)) || decide ((m:Int)+1=((r.length+1:Nat):Int)))=ah:=by
    rw[Gy];exact h0.imp (λz=>decide_eq_true ⋯) λz=>decide_eq_true ⋯
   rw[this];exact q)) (aY (aJ q)))
 ·rw[if_neg h0]at q;obtain⟨w,hw⟩:∃w,r[m]?=ae w:=⟨r[m]'⋯,Ar ⋯⟩;rw[hw]at q;refine aA (aU (λQ q=>cn (a:=decide ((m:Int) < (h.least:Int))) (b:=decide ((m:Int)+1=((r.length+1:Nat):Int))) c1 (λ_=>c2) (by
   have:(decide ((m:Int) < (h.least:Int)) || decide ((m:Int)+1=((r.length+1:Nat):Int)))=ai:=by
    rw[Bool.or_eq_false_iff];exact⟨decide_eq_false ⋯,decide_eq_false ⋯⟩
   rw[this];exact q)) ?_)
  dsimp only[aG]at q ⊢;cases ha:h.aged with
  |true=>
   rw[if_pos ha]at q;exact aA (bo (λQ q=>i3 (s:=h.s) (λQ q=>au rfl q) ((EZ h).trans ha) q) (aY (aW (Im rfl rfl hw ⟨w,rfl,q⟩))))
  |false=>
   rw[if_neg (by rw[ha];decide)]at q;refine aA (aU (λQ q=>i3 (s:=h.s) (λQ q=>au rfl q) ((EZ h).trans ha) q) ?_);ac_rfl;refine aY (hX (b:=h.leads) (λQ q=>i3 (s:=h.s) (λQ q=>au rfl q) (FQ h) q) ?_);cases hl:h.leads with
   |true=>
    rw[if_pos hl]at q;grind;exact aW (Im rfl rfl hw ⟨w,rfl,q⟩)
   |false=>
    rw[if_neg (by rw[hl];decide)]at q;rw[if_neg Al];exact aJ q
theorem WV:bS vD Ic ["head","parts","tail"]:=λws n Q h=>by
 obtain⟨h,ps,t,rfl,hl,q⟩:=h;show Ic [↑(.str h.s),↑(.tuple ps),↑t] n _;by_cases h1:1<=h.no/\h.no<=2
 ·refine aA (bo (nE rfl ((I0 h).trans (decide_eq_true h1))) (aY (au rfl ?_)));cases h<;>first|exact q|exact absurd h1 ∎
 refine aA (aU (nE rfl ((I0 h).trans (decide_eq_false h1))) ?_);ac_rfl;by_cases h0:h.no=0
 ·refine aA (bo (cL rfl ((mL h).trans (decide_eq_true h0))) (aY (dD (au rfl (au rfl (An (show 2<=1000 by decide) ?_))))));cases h<;>first|exact q|cases h0
 refine aA (aU (cL rfl ((mL h).trans (decide_eq_false h0))) ?_);ac_rfl;by_cases h3:h.no=3\/h.no=6
 ·refine aA (bo (nE rfl ((KG h).trans (decide_eq_true h3))) (aY (sP (au rfl (au rfl (au rfl (An (show 3<=1000 by decide) ?_)))))));cases h<;>first|exact q|exact absurd h3 ∎
 refine aA (aU (nE rfl ((KG h).trans (decide_eq_false h3))) ?_);ac_rfl;by_cases h4:h.no=4\/h.no=5
 ·refine aA (bo (nE rfl ((HM h).trans (decide_eq_true h4))) (aY (dD (au rfl (au rfl (An (show 2<=1000 by decide) ?_))))));cases h<;>first|exact q|exact absurd h4 ∎
 refine aA (aU (nE rfl ((HM h).trans (decide_eq_false h4))) ?_);ac_rfl;have q':Q ‹(.str h.s::(ps++[t]))› n:=by
  cases h<;>first|exact q|exact absurd ∎ h1|exact absurd rfl h0|exact absurd ∎ h3|exact absurd ∎ h4
 refine aY (av (av (su (au rfl (An (show 1<=1000 by decide) (au rfl ?_))))));refine(show iQ ‹[.str h.s]› ‹ps› n _ from⟨.inl (λz=>nomatch z),A4 (show 1+ps.length<=1000 by omega) ∎,?_⟩);refine su (au rfl (An (show 1<=1000 by decide) ?_));refine(show iQ ‹(.str h.s::ps)› ‹[t]› n _ from⟨.inl (λz=>nomatch z),A4 (show ps.length+1+1<=1000 by omega) ∎,?_⟩);exact q'
theorem R8:bS sG GV ["line","words","head","parts","tail","many","lacks"]:=λws n Q h=>by
 obtain⟨i,h,r,d,rfl,hr,hd,q0⟩:=h;have q:match iw h r with
  |.inl _=>False
  |.inr d=>Q (.d d) n:=by rw[hd];exact q0
 show GV [↑(.int i),↑(fU h r),af,af,af,af,af] n _;have hpl:=IA h r [];rw[Dc,Nat.zero_add]at hpl;unfold iw at q;dsimp only at q;generalize hps:dB h [] r=ps at q hpl;generalize ht:i7 h r ps.length=t at q;refine aA (dz (x:=.str h.s) (λQ q=>ra rfl q) ?_);ac_nf;refine aA (dz (x:=.tuple ps) (λQ q=>aW (au rfl ⟨h,r,rfl,hr,by rw[hps];exact q⟩)) ?_);ac_nf;refine aA (dz (x:=t) (λQ q=>dZ (au rfl (fG rfl ⟨h,r,ps.length,rfl,hpl,by rw[ht];exact q⟩))) ?_);ac_nf;have hmany:∀Q:DQ,Q (~~~((1+ps.length+(if dU t=ah then 0 else 1):Nat):Int)) n->(w2 (w2 ⇑1 (wB aP (ao ↥3 ak)) (dN λi j=>.int (i+j))) (eQ (cT (w2 ↥4 (wC .none) (bz ai))) ⇑0 ⇑1) (dN λi j=>.int (i+j))) [↑(.int i),↑(fU h r),↑(.str h.s),↑(.tuple ps),↑t,af,af] n Q:=λQ q=>by
  refine av (av (aJ (fG rfl (fM ?_))));refine hX (b:=dU t) (λQ q=>aC (λQ q=>av (au rfl (aJ (xf (b:=ai) q)))) q) ?_;cases hn:dU t with
  |true=>
   rw[hn,if_pos rfl]at q;grind;refine aJ (fM ?_);rw[show(1:Int)+((ps.length:Nat):Int)+0=((1+ps.length+0:Nat):Int) by omega];exact q
  |false=>
   rw[hn,if_neg Al]at q;rw[if_neg Al];refine aJ (fM ?_);rw[show(1:Int)+((ps.length:Nat):Int)+1=((1+ps.length+1:Nat):Int) by omega];exact q
 refine aA (dz (λQ q=>hmany Q q) ?_);ac_nf;generalize(1+ps.length+(if dU t=ah then 0 else 1))=many at q ⊢;refine aA (dz (x:=.bool (decide (ps.length < h.least) || (h.leads&&dU t))) (λQ q=>mn (a:=decide (ps.length < h.least)) (b:=h.leads&&dU t) (λQ q=>av (fG rfl (Hy (λQ q=>au rfl q) (JS h) ?_))) (λ_ Q q=>b8 (a:=h.leads) (b:=dU t) (λQ q=>au rfl (An rfl ?_)) (λ_ Q q=>av (au rfl (aJ (xf (b:=ai) q)))) q) q) ?_)
 ·show Q (.d (.bool (decide (((ps.length:Nat):Int) < (h.least:Int))))) n;have:decide (((ps.length:Nat):Int) < (h.least:Int))=decide (ps.length < h.least):=by
   by_cases z:ps.length < h.least
   ·rw[decide_eq_true z,decide_eq_true ⋯]
   ·rw[decide_eq_false z,decide_eq_false ⋯]
  rw[this];exact q
 ·show Q (.d (.bool (bG (.str h.s) ((Zc:List Str).map .str)))) n;rw[FQ];exact q
 ac_nf;generalize(decide (ps.length < h.least) || (h.leads&&dU t))=lk at q ⊢;have cc:∀Q:Bool->Int->Prop,Q (lk || decide (many < r.length+1)) n->cE (cT ↥6) (cT (w2 ↥5 (wB aP (ao ↥1 ak)) eV)) [↑(.int i),↑(fU h r),↑(.str h.s),↑(.tuple ps),↑t,↑(.int (many:Nat)),↑(.bool lk)] n Q:=λQ q=>cn (a:=lk) (b:=decide (many < r.length+1)) (λQ q=>aC (λQ q=>au rfl q) q) (λ_ Q q=>aC (λQ q=>av (au rfl (Jt rfl (show Q (.d (.bool (decide ((many:Int) < ((r.length+1:Nat):Int))))) n from ?_)))) q) q
 rotate_left
 ·have:decide ((many:Int) < ((r.length+1:Nat):Int))=decide (many < r.length+1):=by
   by_cases z:many < r.length+1
   ·rw[decide_eq_true z,decide_eq_true ⋯]
   ·rw[decide_eq_false z,decide_eq_false ⋯]
  rw[this];exact q
 by_cases h0:lk=ah\/many < r.length+1
 ·rw[if_pos h0]at q;exact q.elim
 ·rw[if_neg h0]at q;refine aA (aU (λQ q=>cc Q (by
   have:(lk || decide (many < r.length+1))=ai:=by
    rw[Bool.or_eq_false_iff];exact⟨Fq.mpr λz=>h0 (.inl z),decide_eq_false λz=>h0 (.inr z)⟩
   rw[this];exact q)) ?_)
  ac_rfl;exact aY (gA (au rfl (au rfl (au rfl ⟨h,ps,t,rfl,by omega,q⟩))))
theorem CP(xs:List α):cF xs (-1)=xs.getLast?:=by
 cases xs with
 |nil=>rfl
 |cons a r=>
  unfold cF iJ;rw[if_neg ∎,if_pos (by rw[Am];omega),Option.bind_some,List.getLast?_eq_getElem?]
  congr 1
  rw[Am];omega
section
variable{δ:Sl}{n:Int}{Q:DQ}{i:Nat}
theorem mQ(hw:∀Q:DQ,Q (.d (.list xs)) n->w δ n Q)(h:xs.getLast?=ae x)(k:Q (.d x) n):w2 w (cY ⇑1) aD δ n Q:=by
 refine av (hw _ ?_);show(match cF xs (-1)with|some d=>Q (.d d) n|none=>False);rw[CP,h];exact k
theorem jY(hw:∀Q:DQ,Q (.d (.list xs)) n->w δ n Q):∀Q:DQ,Q (.d (.bool (!xs.isEmpty))) n->w2 w (aV (aR ak)) ly δ n Q:=λQ q=>av (hw _ (iU q))
theorem Iq(hw:∀Q:DQ,Q (.d (.list xs)) n->w δ n Q):∀Q:DQ,Q (.d (.bool xs.isEmpty)) n->w2 w (aV (aR ak)) bA δ n Q:=λQ q=>av (hw _ (iU (by
 show(match jH (.list xs) (.list [])with|some r=>Q (.d (.bool r)) n|none=>False);rw[show jH (.list xs) (.list [])=ae xs.isEmpty from by cases xs<;>rfl];exact q)))
theorem qY(hw:∀Q:DQ,Q (.d (.list xs)) n->w δ n Q):∀Q:DQ,Q (.d (.bool (decide (xs.length < k)))) n->w2 (wB aP (ao w ak)) (wC (.int (k:Nat))) eV δ n Q:=λQ q=>av (aZ (hw _ (show Q (.d (.bool (decide (((xs.length:Nat):Int) < (k:Int))))) n from by
 have:decide (((xs.length:Nat):Int) < (k:Int))=decide (xs.length < k):=by
  by_cases z:xs.length < k
  ·rw[decide_eq_true z,decide_eq_true ⋯]
  ·rw[decide_eq_false z,decide_eq_false ⋯]
 rw[this];exact q)))
end
theorem tE{α β:Type}(f:α->β)(l:List α):(l.map f).getLast?=l.getLast?.map f:=List.getLast?_map
theorem o7{α β:Type}(f:α->β)(l:List α):(l.map f).isEmpty=l.isEmpty:=by cases l<;>rfl
theorem Ut:bS mW IE ["hands"]:=λws n Q h=>by
 obtain⟨hs,rfl,q⟩:=h;show IE [↑(jv hs)] n _;unfold hZ at q;cases hl:hs.getLast? with
 |none=>
  rw[hl]at q;have:hs=[]:=G6.mp hl;subst this;exact aY (b8 (a:=ai) (b:=ah) (λQ q=>jY (xs:=[]) (λQ q=>au rfl q) Q q) (λz=>nomatch z) q)
 |some bs=>
  rw[hl]at q;have hne:(!(hs.map cD).isEmpty)=ah:=by rw[o7];cases hs with|nil=>cases hl|cons a r=>rfl
  have hl':(hs.map cD).getLast?=ae (cD bs):=by rw[tE,hl];rfl
  refine aY (b8 (a:=ah) (b:=(bs.map jI).isEmpty) (λQ q=>jY (xs:=hs.map cD) (λQ q=>au rfl q) Q (by rw[hne];exact q)) (λ_ Q q=>Iq (xs:=bs.map jI) (λQ q=>mQ (λQ q=>au rfl q) hl' q) Q q) ?_);rw[o7,Cm];cases bs with
  |nil=>exact q
  |cons b r=>exact q
theorem Mj:bS tJ J5 ["head","notes","hands"]:=λws n Q h=>by
 obtain⟨h,ns,hs,rfl,q⟩:=h;show J5 [↑(.str h),↑(.list ns),↑(jv hs)] n _;have ne:∀{bs},hs.getLast?=ae bs->(!(hs.map cD).isEmpty)=ah:=λ{bs} hl=>by rw[o7];cases hs with|nil=>cases hl|cons a r=>rfl
 have nl:hs.getLast?=af->hs=[]:=λhl=>G6.mp hl;unfold bV at q;by_cases h0:h="note"
 ·rw[if_pos h0]at q;refine aA (bo (cL rfl (decide_eq_true h0)) (aY (b8 (a:=hs.isEmpty) (b:=decide (ns.length < 12)) (λQ q=>Iq (xs:=hs.map cD) (λQ q=>au rfl q) Q (by rw[o7];exact q)) (λ_ Q q=>qY (k:=12) (λQ q=>au rfl q) Q q) q)))
 rw[if_neg h0]at q;refine aA (aU (cL rfl (decide_eq_false h0)) ?_);ac_rfl;by_cases h1:h="hand"
 ·rw[if_pos h1]at q;refine aA (bo (cL rfl (decide_eq_true h1)) (aY (b8 (a:=!hZ hs) (b:=decide (hs.length < 5)) (λQ q=>(show az mW (ao ↥2 ak) _ n _ from aW (au rfl ⟨hs,rfl,q⟩))) (λ_ Q q=>qY (xs:=hs.map cD) (k:=5) (λQ q=>au rfl q) Q (by rw[Ab];exact q)) q)))
 rw[if_neg h1]at q;refine aA (aU (cL rfl (decide_eq_false h1)) ?_);ac_rfl;by_cases h2:h="block"
 ·rw[if_pos h2]at q;refine aA (bo (cL rfl (decide_eq_true h2)) ?_);cases hl:hs.getLast? with
  |none=>
   rw[hl]at q;cases nl hl;exact aY (b8 (a:=ai) (b:=ah) (λQ q=>jY (xs:=[]) (λQ q=>au rfl q) Q q) (λz=>nomatch z) q)
  |some bs=>
   rw[hl]at q;have hl':(hs.map cD).getLast?=ae (cD bs):=by rw[tE,hl];rfl
   exact aY (b8 (a:=ah) (b:=decide (bs.length < 6)) (λQ q=>jY (xs:=hs.map cD) (λQ q=>au rfl q) Q (by rw[ne hl];exact q)) (λ_ Q q=>qY (xs:=bs.map jI) (k:=6) (λQ q=>mQ (λQ q=>au rfl q) hl' q) Q (by rw[Ab];exact q)) q)
 rw[if_neg h2]at q;refine aA (aU (cL rfl (decide_eq_false h2)) ?_);ac_rfl;cases h3:bG (.str h) ((Za:List Str).map .str)with
 |false=>
  rw[if_neg (by rw[h3];decide)]at q;refine aA (aU (λQ q=>i3 (s:=h) (λQ q=>au rfl q) h3 q) ?_);ac_rfl;exact aY (aJ q)
 |true=>
  rw[if_pos h3]at q;refine aA (bo (λQ q=>i3 (s:=h) (λQ q=>au rfl q) h3 q) ?_);cases hl:hs.getLast? with
  |none=>
   rw[hl]at q;cases nl hl;exact aY (b8 (a:=ai) (b:=ah) (λQ q=>jY (xs:=[]) (λQ q=>au rfl q) Q q) (λz=>nomatch z) q)
  |some bs=>
   rw[hl]at q;have hl':(hs.map cD).getLast?=ae (cD bs):=by rw[tE,hl];rfl
   cases hb:bs.getLast? with
   |none=>
    dsimp only at q;rw[hb]at q;cases G6.mp hb;exact aY (b8 (a:=ah) (b:=ai) (λQ q=>jY (xs:=hs.map cD) (λQ q=>au rfl q) Q (by rw[ne hl];exact q)) (λ_ Q q=>b8 (a:=ai) (b:=ah) (λQ q=>jY (xs:=[]) (λQ q=>mQ (λQ q=>au rfl q) hl' q) Q q) (λz=>nomatch z) q) q)
   |some b=>
    dsimp only at q;rw[hb]at q;have hb':(bs.map jI).getLast?=ae (jI b):=by rw[tE,hb];rfl
    have hbn:(!(bs.map jI).isEmpty)=ah:=by rw[o7];cases bs with|nil=>cases hb|cons a r=>rfl
    exact aY (b8 (a:=ah) (b:=decide (b.2.length < 8)) (λQ q=>jY (xs:=hs.map cD) (λQ q=>au rfl q) Q (by rw[ne hl];exact q)) (λ_ Q q=>b8 (a:=ah) (b:=decide (b.2.length < 8)) (λQ q=>jY (xs:=bs.map jI) (λQ q=>mQ (λQ q=>au rfl q) hl' q) Q (by rw[hbn];exact q)) (λ_ Q q=>qY (xs:=b.2) (k:=8) (λQ q=>av (mQ (λQ q=>mQ (λQ q=>au rfl q) hl' q) hb' (aJ (gj q)))) Q q) q) q)
theorem Vq:bS rS EM ["blocks"]:=λws n Q h=>by
 obtain⟨bs,rfl,hl,q⟩:=h;show EM [↑(cD bs)] n _;refine aY (aZ (bf ?_));unfold bB eY;refine au rfl ?_;have key:∀(re:List Bk)(acc:List Aa)(x y:Option SV),Q ‹(acc++re.map eX)› n->cM ⇑1021 aQ (aB (ao ↥0 (ao (wB gD (ao ↥1 ak)) ak))) (λds n1=>gD [.d (.list ds)] n1 Q) (re.map jI) acc [x,y] n:=λre=>by
  induction re with
  |nil=>
   intro acc x y k;rw[Bo,A5]at k;exact k
  |cons b re ih=>
   intro acc x y k;rw[A3];unfold cM;refine An rfl ?_;dsimp only[bP,cq,aF,Aw,aQ];grind;refine dD (au rfl (aZ (au rfl (show gD [.d (.list b.2)] n _ from An (show 2<=1000 by decide) ?_))));refine ih (acc++[eX b]) _ _ ?_;rw[A9];exact k
 exact key bs [] _ _ q
theorem Ng(e:b7 h a=ah):a=.str h:=by
 cases a with
 |str s=>rw[show s=h from of_decide_eq_true e]
 |_=>cases e
theorem r9(e:bQ h ((k+1:Nat):Int) d=ah):∃r,d=.tuple (.str h::r)/\r.length=k:=by
 obtain⟨ds,rfl,hl⟩:=BO e;cases ds with
 |nil=>cases hl
 |cons a r=>
  have e:(decide (((a::r).length:Int)=((k+1:Nat):Int))&&b7 h a)=ah:=e;rw[Ak]at e;exact⟨r,by rw[Ng e.2],by rw[Am]at hl;omega⟩
theorem v8(e:bQ h 1 d=ah):d=.tuple [.str h]:=by
 obtain⟨r,rfl,hl⟩:=r9 (k:=0) e;rw[E9 hl]
theorem qZ(e:bQ h 2 d=ah):∃x,d=.tuple [.str h,x]:=by
 obtain⟨r,rfl,hl⟩:=r9 (k:=1) e;obtain⟨x,rfl⟩:=List.length_eq_one_iff.mp hl;exact⟨x,rfl⟩
theorem CD(h:aO k d=ah):∃x,d=.str x:=by
 cases d with
 |str x=>exact⟨x,rfl⟩
 |_=>cases h
theorem kR(h)(r:List Aa):bQ h ((r.length+1:Nat):Int) (.tuple (.str h::r))=ah:=by
 show(decide (((A7 h::r).length:Int)=((r.length+1:Nat):Int))&&decide (h=h))=ah;rw[decide_eq_true rfl,decide_eq_true (show((A7 h::r).length:Int)=((r.length+1:Nat):Int)from rfl)];rfl
theorem Ks(h:aO 4 (.str x)=ah)(hT:Th L k (.str x)):eu x:=⟨h,by cases hT;assumption⟩
theorem Vj(h:ck d=ah)(hT:Th L k d):kU d=ah:=by
 unfold kU;rw[h,Cm];cases hT with
 |str x hx hs=>
  show(decide (x.length<=60)&&Bw x)=ah;rw[hs,decide_eq_true hx];rfl
 |int i _ _=>
  have h:(ai || (decide ((0:Int)<=i)&&decide (i<=99)))=ah:=h;rw[Bool.false_or,Ak]at h;have h1:=of_decide_eq_true h.1;have h2:=of_decide_eq_true h.2;rw[fV,Ak];exact⟨decide_eq_true (by unfold jM;omega),decide_eq_true (by unfold jM;omega)⟩
 |non=>cases h
 |bool b=>cases h
 |list _ _=>cases h
 |tuple _ _=>cases h
theorem vm(e:jo h d=ah)(hT:Th L k d):∃x,d=.tuple [.str h,.str x]/\eu x:=by
 have e:(bQ h 2 d&&aO 4 (gR d))=ah:=e;rw[Ak]at e;obtain⟨y,rfl⟩:=qZ e.1;obtain⟨x,rfl⟩:=CD e.2;exact⟨x,rfl,Ks e.2 (hT.mem (.str x) (by simp))⟩
theorem uh(e:cv d=ah)(hT:Th L k d):∃f:Fe,d=f.d/\f.ok/\f.te=ah:=by
 unfold cv at e;cases hb:bQ "is" 2 d with
 |true=>
  rw[hb,if_pos rfl]at e;obtain⟨x,rfl⟩:=qZ hb;exact⟨.isv x,rfl,Vj e (hT.mem x (by simp)),rfl⟩
 |false=>
  rw[hb,if_neg Al]at e;obtain⟨x,rfl,ok⟩:=vm e hT;exact⟨.as x,rfl,ok,rfl⟩
theorem VT(e:eR d=ah)(hT:Th L k d):∃f:Fe,d=f.d/\f.ok/\f.tm=ah:=by
 rcases Cz.mp e with z|z
 ·obtain⟨f,h1,h2,h3⟩:=uh z hT;exact⟨f,h1,h2,by cases f<;>first|rfl|cases h3⟩
 ·obtain⟨x,rfl,ok⟩:=vm z hT;exact⟨.nx x,rfl,ok,rfl⟩
theorem UM(e:dJ d=ah)(hT:Th L k d):∃f:Fe,d=f.d/\f.ok/\f.pt=ah:=by
 rcases Cz.mp e with z|z
 ·rcases Cz.mp z with z|z
  ·exact⟨.any,v8 z,trivial,rfl⟩
  ·rcases Cz.mp z with z|z
   ·exact⟨.word,v8 z,trivial,rfl⟩
   ·exact⟨.num,v8 z,trivial,rfl⟩
 ·rcases Cz.mp z with z|z
  ·obtain⟨f,h1,h2,h3⟩:=uh z hT;exact⟨f,h1,h2,by cases f<;>first|rfl|cases h3⟩
  ·obtain⟨x,rfl,ok⟩:=vm z hT;exact⟨.bind x,rfl,ok,rfl⟩
theorem o5{α:Type}{f:α->Aa}{R:α->Prop}:∀{ds:List Aa},(∀d∈ds,∃x,d=f x/\R x)->∃xs:List α,ds=xs.map f/\∀x∈xs,R x
 |[],_=>⟨[],rfl,λx hx=>nomatch hx⟩
 |d::r,h=>by
  obtain⟨x,rfl,hx⟩:=h d Ae;obtain⟨xs,rfl,hxs⟩:=o5 λe he=>h e (Af _ he);exact⟨x::xs,rfl,λy hy=>(Aq.mp hy).elim (λe=>e▸hx) (hxs y)⟩
theorem FT{R:Fe->Prop}(e:(fh d&&(o4 d).all g)=ah)(hT:Th L k d)(h:∀x,g x=ah->(∃L k,Th L k x)->∃f:Fe,x=f.d/\f.ok/\R f):∃fs:List Fe,d=bJ fs/\cQ fs/\1<=fs.length/\∀f∈fs,R f:=by
 rw[Ak]at e;cases d with
 |tuple ds=>
  have e1:(decide ((1:Int)<=(ds.length:Int))&&decide ((ds.length:Int)<=4))=ah:=e.1;rw[Ak]at e1;have l1:=of_decide_eq_true e1.1;have l4:=of_decide_eq_true e1.2;obtain⟨fs,rfl,hfs⟩:=o5 (f:=Fe.d) (R:=λf=>f.ok/\R f) λx hx=>h x (Be.mp e.2 x hx) ⟨_,_,hT.mem x hx⟩;rw[Ab]at l1 l4;exact⟨fs,rfl,⟨by omega,λf hf=>(hfs f hf).1⟩,by omega,λf hf=>(hfs f hf).2⟩
 |_=>cases e.1
theorem vh(h:fj d=ah):∃b:Nat,d=.int b:=by
 cases d with
 |int i=>
  have:=of_decide_eq_true (show decide ((0:Int)<=i)=ah from h);exact⟨i.toNat,by rw[Int.toNat_of_nonneg this]⟩
 |_=>cases h
theorem GX(e:bY d=ah)(hT:Th L k d):∃fs:List Fe,d=bJ fs/\cQ fs/\gM fs:=by
 obtain⟨fs,h1,h2,h3,h4⟩:=FT (R:=λf=>f.pt=ah) e hT λx hx ⟨_,_,ht⟩=>UM hx ht;exact⟨fs,h1,h2,h3,h4⟩
theorem Q4(h:cj d=ah):iO d:=by
 rcases Cz.mp h with z|z
 ·cases d<;>first|exact .inl rfl|cases z
 ·cases d with
  |int i=>
   have z:(decide ((1:Int)<=i)&&decide (i<=20))=ah:=z;rw[Ak]at z;exact .inr ⟨i,rfl,of_decide_eq_true z.1,of_decide_eq_true z.2⟩
  |_=>cases z
theorem VL(e:cP d=ah)(hT:Th L k d):∃a:Ac,d=a.d/\gC a:=by
 have three:∀{h:Str},bQ h 3 d=ah->∃x y,d=.tuple [.str h,x,y]:=λ{h} z=>by
  obtain⟨r,rfl,hl⟩:=r9 (k:=2) z
  match r,hl with
  |[x,y],_=>exact⟨x,y,rfl⟩
 have patA:∀{h:Str},gV h d=ah->∃fs,d=.tuple [.str h,bJ fs]/\cQ fs/\gM fs:=λ{h} z=>by
  have z:(bQ h 2 d&&bY (eI 1 d))=ah:=z;rw[Ak]at z;obtain⟨x,rfl⟩:=qZ z.1;obtain⟨fs,rfl,h2,h3⟩:=GX (d:=x) z.2 (hT.mem x (by simp));exact⟨fs,rfl,h2,h3⟩
 rcases Cz.mp e with z|z
 ·rcases Cz.mp z with z|z
  ·have z:(bQ "lay" 3 d&&(ek (eI 1 d)&&cj (eI 2 d)))=ah:=z;rw[Ak,Ak]at z;obtain⟨x,y,rfl⟩:=three z.1;obtain⟨fs,h1,h2,h3,h4⟩:=FT (R:=λf=>f.tm=ah) (d:=x) z.2.1 (hT.mem x (by simp)) λx hx ⟨_,_,ht⟩=>VT hx ht;subst h1;exact⟨.lay fs y,rfl,h2,h4,Q4 z.2.2,h3⟩
  ·rcases Cz.mp z with z|z
   ·obtain⟨fs,rfl,h2,h3⟩:=patA z;exact⟨.take fs,rfl,h2,h3⟩
   ·obtain⟨fs,rfl,h2,h3⟩:=patA z;exact⟨.read fs,rfl,h2,h3⟩
 ·rcases Cz.mp z with z|z
  ·have z:(bQ "look" 3 d&&(bY (eI 1 d)&&fj (eI 2 d)))=ah:=z;rw[Ak,Ak]at z;obtain⟨x,y,rfl⟩:=three z.1;obtain⟨fs,h1,h2,h3⟩:=GX (d:=x) z.2.1 (hT.mem x (by simp));obtain⟨b,rfl⟩:=vh (d:=y) z.2.2;subst h1;exact⟨.look fs b,rfl,h2,h3⟩
  ·rcases Cz.mp z with z|z
   ·have z:(bQ "same" 4 d&&(cv (eI 1 d)&&(cv (eI 2 d)&&fj (eI 3 d))))=ah:=z;rw[Ak,Ak,Ak]at z;obtain⟨r,rfl,hl⟩:=r9 (k:=3) z.1
    match r,hl with
    |[x,y,w],_=>
     obtain⟨f,h1,h2,h3⟩:=uh (d:=x) z.2.1 (hT.mem x (by simp));obtain⟨g,g1,g2,g3⟩:=uh (d:=y) z.2.2.1 (hT.mem y (by simp));obtain⟨b,rfl⟩:=vh (d:=w) z.2.2.2;subst h1 g1;exact⟨.same f g b,rfl,⟨show 2<=4 by decide,λe he=>by
      rcases Aq.mp he with rfl|he
      ·exact h2
      ·rw[Au.mp he];exact g2⟩,h3,g3⟩
   ·have z:(bQ "go" 2 d&&fj (eI 1 d))=ah:=z;rw[Ak]at z;obtain⟨x,rfl⟩:=qZ z.1;obtain⟨b,rfl⟩:=vh (d:=x) z.2;exact⟨.go b,rfl,⟨show 0<=4 by decide,λe he=>nomatch he⟩,trivial⟩
theorem Mt(e:gS d=ah)(hT:Th L k d):∃b:Bl,d=bR b/\eS b:=by
 have two:∃x y,d=.tuple [x,y]:=by
  cases d with
  |tuple ds=>
   rcases ds with _|⟨x,_|⟨y,_|⟨z,r⟩⟩⟩
   ·cases e
   ·cases e
   ·exact⟨x,y,rfl⟩
   ·cases e
  |_=>cases e
 obtain⟨x,y,rfl⟩:=two;have e:(fF x&&jc y)=ah:=e;rw[Ak]at e;have hx:=hT.mem x (by simp);have hy:=hT.mem y (by simp);cases x with
 |tuple ws=>
  cases y with
  |tuple as=>
   have e1:(decide ((ws.length:Int)<=4)&&(ws.all (aO 4)&&gc ws))=ah:=e.1;have e2:(decide ((as.length:Int)<=8)&&as.all cP)=ah:=e.2;rw[Ak,Ak]at e1;rw[Ak]at e2;obtain⟨ks,rfl,hks⟩:=o5 (f:=A7) (R:=eu) λz hz=>by
    have hl:=Be.mp e1.2.1 z hz;obtain⟨s,rfl⟩:=CD hl;exact⟨s,rfl,Ks hl (hx.mem (.str s) hz)⟩
   obtain⟨acs,rfl,hacs⟩:=o5 (f:=Ac.d) (R:=gC) λz hz=>VL (Be.mp e2.2 z hz) (hy.mem z hz);have l1:=of_decide_eq_true e1.1;have l2:=of_decide_eq_true e2.1;rw[Ab]at l1 l2;exact⟨(ks,acs),rfl,by show ks.length<=4;omega,hks,by show acs.length<=8;omega,hacs⟩
  |_=>cases e.2
 |_=>cases e.1
theorem Vh(e:i4 d=ah)(hT:Th L k d):∃P:List Bl,d=bE P/\kQ P:=by
 cases d with
 |tuple ds=>
  have e':((decide ((1:Int)<=(ds.length:Int))&&decide ((ds.length:Int)<=6))&&ds.all gS)=ah:=e;rw[Ak,Ak]at e';obtain⟨P,rfl,hP⟩:=o5 (f:=bR) (R:=eS) λz hz=>Mt (Be.mp e'.2 z hz) (hT.mem z hz);have l1:=of_decide_eq_true e'.1.1;have l2:=of_decide_eq_true e'.1.2;rw[Ab]at l1 l2;exact⟨P,rfl,e,by omega,by omega,hP⟩
 |_=>cases e
theorem yl(ok:eu x):jo h (.tuple [.str h,.str x])=ah:=by
 show(bQ h 2 (.tuple [.str h,.str x])&&aO 4 (.str x))=ah;rw[ok.1,show bQ h 2 (.tuple [.str h,.str x])=ah from kR h [.str x]];rfl
theorem mX{f:Fe}(ok:f.ok)(h:f.te=ah):cv f.d=ah:=by
 unfold cv;cases f with
 |isv d=>
  have ok:(ck d&&fV 60 0 d)=ah:=ok;rw[Ak]at ok;rw[if_pos (show bQ "is" 2 (Fe.isv d).d=ah from kR "is" [d])];exact ok.1
 |as x=>
  rw[if_neg (show ¬bQ "is" 2 (Fe.as x).d=ah by
   show ¬(decide ((2:Int)=2)&&decide (("as":Str)="is"))=ah;rw[show decide (("as":Str)="is")=ai by decide +kernel,Gm];exact Al)]
  exact yl ok
 |_=>cases h
theorem OB{f:Fe}(ok:f.ok)(h:f.tm=ah):eR f.d=ah:=by
 unfold eR;cases f with
 |isv d=>rw[mX (f:=.isv d) ok rfl];rfl
 |as x=>rw[mX (f:=.as x) ok rfl];rfl
 |nx x=>rw[show jo "next" (Fe.nx x).d=ah from yl ok,Dk]
 |_=>cases h
theorem OI{f:Fe}(ok:f.ok)(h:f.pt=ah):dJ f.d=ah:=by
 unfold dJ;cases f with
 |any=>exact(show dJ Fe.any.d=ah by decide +kernel)
 |word=>exact(show dJ Fe.word.d=ah by decide +kernel)
 |num=>exact(show dJ Fe.num.d=ah by decide +kernel)
 |isv d=>rw[mX (f:=.isv d) ok rfl,Gk,Dk]
 |as x=>rw[mX (f:=.as x) ok rfl,Gk,Dk]
 |bind x=>rw[show jo "bind" (Fe.bind x).d=ah from yl ok,Dk,Dk]
 |nx x=>cases h
theorem BS(h1:1<=fs.length)(h4:fs.length<=4):fh (bJ fs)=ah:=by
 show(decide ((1:Int)<=((fs.map Fe.d).length:Int))&&decide (((fs.map Fe.d).length:Int)<=4))=ah;rw[Ab,decide_eq_true (show(1:Int)<=(fs.length:Int) by omega),decide_eq_true (show(fs.length:Int)<=4 by omega)];rfl
theorem CH(h:∀f∈fs,g f.d=ah):(o4 (bJ fs)).all g=ah:=by
 show(fs.map Fe.d).all g=ah;rw[Ep];exact Be.mpr h
theorem vb(ok:cQ fs)(h:gM fs):bY (bJ fs)=ah:=by
 unfold bY;rw[BS h.1 ok.1,CH λf hf=>OI (ok.2 f hf) (h.2 f hf)];rfl
theorem SI(ok:cQ fs)(h1:1<=fs.length)(h:∀f∈fs,f.tm=ah):ek (bJ fs)=ah:=by
 unfold ek;rw[BS h1 ok.1,CH λf hf=>OB (ok.2 f hf) (h f hf)];rfl
theorem ZI(h:iO d):cj d=ah:=by
 rcases h with rfl|⟨i,rfl,h1,h2⟩
 ·rfl
 ·show(ai || (decide ((1:Int)<=i)&&decide (i<=20)))=ah;rw[decide_eq_true h1,decide_eq_true h2];rfl
theorem AB(b:Nat):fj (.int b)=ah:=by
 show decide ((0:Int)<=(b:Int))=ah;exact decide_eq_true ⋯
theorem Ml(h:gC a):cP a.d=ah:=by
 unfold cP;cases a with
 |lay fs age=>
  have:gX (Ac.lay fs age).d=ah:=by
   show(bQ "lay" 3 _&&(ek (bJ fs)&&cj age))=ah;rw[show bQ "lay" 3 (Ac.lay fs age).d=ah from kR "lay" [bJ fs,age],SI (fs:=fs) h.1 h.2.2.2 h.2.1,ZI h.2.2.1];rfl
  rw[this];rfl
 |take fs=>
  have:gV "take" (Ac.take fs).d=ah:=by
   show(bQ "take" 2 _&&bY (bJ fs))=ah;rw[show bQ "take" 2 (Ac.take fs).d=ah from kR "take" [bJ fs],vb (fs:=fs) h.1 h.2];rfl
  rw[this,Gk,Dk,Gk]
 |read fs=>
  have:gV "read" (Ac.read fs).d=ah:=by
   show(bQ "read" 2 _&&bY (bJ fs))=ah;rw[show bQ "read" 2 (Ac.read fs).d=ah from kR "read" [bJ fs],vb (fs:=fs) h.1 h.2];rfl
  rw[this,Dk,Dk,Gk]
 |look fs b=>
  have:lW (Ac.look fs b).d=ah:=by
   show(bQ "look" 3 _&&(bY (bJ fs)&&fj (.int b)))=ah;rw[show bQ "look" 3 (Ac.look fs b).d=ah from kR "look" [bJ fs,.int b],vb (fs:=fs) h.1 h.2,AB];rfl
  rw[this,Gk,Dk]
 |same f g b=>
  have:iX (Ac.same f g b).d=ah:=by
   show(bQ "same" 4 _&&(cv f.d&&(cv g.d&&fj (.int b))))=ah;rw[show bQ "same" 4 (Ac.same f g b).d=ah from kR "same" [f.d,g.d,.int b],mX (h.1.2 f (by simp[Ac.fs])) h.2.1,mX (h.1.2 g (by simp[Ac.fs])) h.2.2,AB];rfl
  rw[this,Gk,Dk,Dk]
 |go b=>
  have:lU (Ac.go b).d=ah:=by
   show(bQ "go" 2 _&&fj (.int b))=ah;rw[show bQ "go" 2 (Ac.go b).d=ah from kR "go" [.int b],AB];rfl
  rw[this,Dk,Dk,Dk]
theorem Ug(h:rC b):gS (bR b)=ah:=by
 obtain⟨h1,h2,h3,h4,h5,h6⟩:=h;show(fF (cW b.1)&&jc (.tuple (b.2.map Ac.d)))=ah;have hw:fF (cW b.1)=ah:=by
  show(decide (((b.1.map A7).length:Int)<=4)&&((b.1.map A7).all (aO 4)&&gc (b.1.map A7)))=ah;have up:b.1.Pairwise λa b=>qd a b=ah:=(h5.and h6).imp λ{a b} h=>by
   cases e:qd a b with
   |true=>rfl
   |false=>exact absurd (slin.tot a b e (decide_eq_false h.2)) h.1
  rw[Ab,decide_eq_true (show(b.1.length:Int)<=4 by omega),(EB b.1).mpr up,Ep];rw[show b.1.all (aO 4 ∘ A7)=ah from Be.mpr λk hk=>(h2 k hk).1];rfl
 have ha:jc (.tuple (b.2.map Ac.d))=ah:=by
  show(decide (((b.2.map Ac.d).length:Int)<=8)&&(b.2.map Ac.d).all cP)=ah;rw[Ab,decide_eq_true (show(b.2.length:Int)<=8 by omega),Ep];rw[show b.2.all (cP ∘ Ac.d)=ah from Be.mpr λa ha=>Ml (h4 a ha)];rfl
 rw[hw,ha];rfl
theorem Vp(h:kZ P)(h0:gz P):kQ P:=by
 refine⟨?_,h.1,h.2.1,(HV h h0).2⟩;show((decide ((1:Int)<=((P.map bR).length:Int))&&decide (((P.map bR).length:Int)<=6))&&(P.map bR).all gS)=ah;rw[Ab,decide_eq_true (show(1:Int)<=(P.length:Int) by have:=h.1;omega),decide_eq_true (show(P.length:Int)<=6 by have:=h.2.1;omega),Ep];rw[show P.all (gS ∘ bR)=ah from Be.mpr λb hb=>Ug (h.2.2 b hb).1];rfl
theorem UQ(hw:∀Q:DQ,Q ‹ds› n->w δ n Q)(q:Q (!ds.isEmpty) n):cT (w2 w (aB ak) (k0 ah)) δ n Q:=
 aC (k:=!ds.isEmpty) (λQ q=>av (hw _ (show aB ak _ _ _ from An (Bf _) (by cases ds<;>exact q)))) q
theorem Q3(hT:Th L k d):(i4 d=ai/\h9 d=ai)\/∃P,d=bE P/\kQ P/\h9 d=iR P:=by
 cases hb:i4 d with
 |false=>exact .inl ⟨rfl,EL λ⟨P,e,h⟩=>by
   rw[e,h.1]at hb;cases hb⟩
 |true=>
  obtain⟨P,rfl,h⟩:=Vh hb hT;exact .inr ⟨P,rfl,h,vK h⟩
theorem QY:bS qJ K6 Zb:=λws n Q h=>by
 obtain⟨d,L,k,rfl,hT,hL,hk,q⟩:=h;show K6 [↑d] n _;have hj:∀(b:Bool),i4 d=b->∀Q:Bool->Int->Prop,Q (!b) n->bw (cT (az (aI i4) (ao ↥0 ak))) [↑d] n Q:=λb e Q q=>gE (k:=b) (λQ q=>aC (λQ q=>cX (g:=i4) (λQ q=>au rfl q) Q (by rw[e];exact q)) q) q;rcases Q3 hT with⟨h1,h2⟩|⟨P,rfl,wf,e⟩
 ·rw[h2]at q;exact aA (bo (λQ q=>cn (a:=ah) (b:=ah) (hj ai h1) (λz=>nomatch z) q) (aY (aJ q)))
 ·rw[e]at q;obtain⟨wf1,wf2,wf3,wf4⟩:=wf;cases P with
  |nil=>exact absurd wf2 ∎
  |cons b P=>
   have q:Q (.d (.bool (b.1.isEmpty&&(b::P).all λc=>ir (b::P) c.1 c.2))) n:=q;have h0:∀Q:Bool->Int->Prop,Q (!(b.1.map A7).isEmpty) n->cT (w2 (w2 (w2 ↥0 ⇑0 aD) ⇑0 aD) (aB ak) (k0 ah)) [↑(bE (b::P))] n Q:=λQ q=>UQ (ds:=b.1.map A7) (λQ q=>av (av (au rfl (aJ (gO (aJ (gO q))))))) q;have e0:(b.1.map A7).isEmpty=b.1.isEmpty:=by cases b.1<;>rfl
   rw[e0]at h0;cases hb:b.1.isEmpty with
   |false=>
    rw[hb]at q h0;exact aA (bo (λQ q=>cn (a:=ai) (b:=ah) (hj ah wf1) (λ_ Q q=>h0 Q q) q) (aY (aJ q)))
   |true=>
    rw[hb,Cm]at q;rw[hb]at h0;refine aA (aU (λQ q=>cn (a:=ai) (b:=ai) (hj ah wf1) (λ_ Q q=>h0 Q q) q) ?_);ac_rfl;generalize b::P=R at q wf1 wf2 wf3 wf4;have er:(R.all λc=>ir R c.1 c.2)=(Ce R.length).all λi=>match R[i]? with|some c=>ir R c.1 c.2|none=>ah:=by
     rw[Fj,Be,Be];refine⟨λh i _=>?_,λh c hc=>?_⟩
     ·cases hi:R[i]? with
      |none=>rfl
      |some c=>exact h c (D4 hi)
     ·obtain⟨i,hi,rfl⟩:=List.getElem_of_mem hc;have:=h i (Dh.mpr hi);rw[Ar hi]at this;exact this
    rw[er]at q;refine aY (nM (w:=az rD (ao ↥1 (ao ↥0 ak))) (λi:Nat=>.int (i:Nat)) (λi=>match R[i]? with|some c=>ir R c.1 c.2|none=>ah) (Ce R.length) (rest:=[↑(bE R)]) (λQ q=>?_) (λi hi n Q' q=>?_) q)
    ·unfold bB dF;refine fG rfl ?_;rw[Ab];refine An ⟨by omega,by omega⟩ ?_;rw[B6,l8];exact q
    ·have hi:i < R.length:=Dh.mp hi;have ei:R[i]?=ae R[i]:=Ar hi;have q:Q' (.d (.bool (match R[i]? with|some c=>ir R c.1 c.2|none=>ah))) n:=q;rw[ei]at q;exact dZ (au rfl (au rfl ⟨R,i,R[i],rfl,ei,wf4 _ (F1 hi),q⟩))
theorem UY{m k:Nat}(h:k'=(k:Int)):decide ((m:Int)<=k')=decide (m<=k):=decide_eq_decide.mpr ⋯
theorem OS{m k:Nat}(h:k'=(k:Int)):decide (k' < (m:Int))=!decide (m<=k):=by
 by_cases z:m<=k
 ·rw[decide_eq_true z,decide_eq_false ⋯];rfl
 ·rw[decide_eq_false z,decide_eq_true ⋯];rfl
theorem J9(h:oH (.tuple ds)):∀d∈ds,oH d:=λd hd=>by
 obtain⟨L,k,hT,hL,hk⟩:=h;exact⟨L,k-1,hT.mem d hd,hL,by omega⟩
theorem PB(e:δ[i]?=ae (↑d))(h:oH d)(q:Q (.d (.bool (h9 d))) n):az qJ (ao (aj i) ak) δ n Q:=by
 obtain⟨L,k,hT,hL,hk⟩:=h;exact aW (au e ⟨d,L,k,rfl,hT,hL,hk,q⟩)
theorem Ti:bS xV KP Zb:=λws n Q h=>by
 obtain⟨d,rfl,ok,q⟩:=h;show KP [↑d] n _;cases d with
 |tuple ds=>
  have q:Q (.d (.bool (decide (ds.length<=5)&&ds.all h9))) n:=q;have hg:∀Q:Bool->Int->Prop,Q (!decide (ds.length<=5)) n->cT (w2 (wB aP (ao ↥0 ak)) ⇑5 k7) [↑(.tuple ds)] n Q:=λQ q=>aC (k:=!decide (ds.length<=5)) (λQ q=>av (fG rfl (aJ (show Q (.d (.bool (decide ((5:Int) < (ds.length:Int))))) n by rw[OS (k:=5) (k':=5) rfl];exact q)))) q;cases hl:decide (ds.length<=5)with
  |false=>
   rw[hl]at q hg;exact aA (bo (λQ q=>cn (a:=ai) (b:=ah) (jT rfl) (λ_ Q q=>hg Q q) q) (aY (aJ q)))
  |true=>
   rw[hl,Cm]at q;rw[hl]at hg;refine aA (aU (λQ q=>cn (a:=ai) (b:=ai) (jT rfl) (λ_ Q q=>hg Q q) q) ?_);ac_rfl;exact aY (nM (w:=az qJ (ao ↥0 ak)) id h9 ds (rest:=[]) (λQ q=>gY (ds:=ds) (λQ q=>au rfl q) (by rw[Fy]at q;exact q)) (λd hd n Q' q=>PB rfl (J9 ok d hd) q) q)
 |_=>exact aA (bo (λQ q=>cn (a:=ah) (b:=ah) (λQ q=>gE (k:=ai) (λQ q=>aC (k:=ai) (λQ q=>q) q) q) (λz=>nomatch z) q) (aY (aJ q)))
theorem SO:∀ws n Q,aI js ws n Q->ws.length=1:=λ_ _ _ h=>dX h
theorem XI:∀ws n Q,aI js ws n Q->KY (cz Zb ws) n {nx:=λ_ n=>Q (.d .none) n,rt:=Q}:=dY λd n K q=>by
 show KY [↑d] n K;refine aY ?_;cases d with
 |tuple ds=>
  have q:K.rt (.d (.bool (decide (ds.length<=12)&&ds.all iz))) n:=q;refine b8 (a:=ah) (b:=decide (ds.length<=12)&&ds.all iz) (λQ q=>lj rfl q) (λ_ Q q=>?_) q;refine b8 (a:=decide (ds.length<=12)) (b:=ds.all iz) (λQ q=>av (fG rfl (aJ (show Q (.d (.bool (decide ((ds.length:Int)<=12)))) n by rw[UY (k:=12) (k':=12) rfl];exact q)))) (λ_ Q q=>?_) q;exact nM (w:=az (aI iz) (ao ↥0 ak)) id iz ds (rest:=[]) (λQ q=>gY (ds:=ds) (λQ q=>au rfl q) (by rw[Fy]at q;exact q)) (λd hd n Q' q=>cX (g:=iz) (λQ q=>au rfl q) Q' q) q
 |_=>exact b8 (a:=ai) (b:=ai) (λQ q=>q) (λz=>nomatch z) q
theorem Vs(h:ds.length≠2):l3 (.tuple ds)=ai:=by
 rcases ds with _|⟨a,_|⟨b,_|⟨c,r⟩⟩⟩
 ·rfl
 ·rfl
 ·exact absurd rfl h
 ·rfl
theorem SY:bS o6 BU Zb:=λws n Q h=>by
 obtain⟨d,rfl,ok,q⟩:=h;show BU [↑d] n _;refine aY ?_;cases d with
 |tuple ds=>
  refine b8 (a:=ah) (b:=l3 (.tuple ds)) (λQ q=>lj rfl q) (λ_ Q q=>?_) q;by_cases h2:ds.length=2
  ·obtain⟨a,b,rfl⟩:∃a b,ds=[a,b]:=by
    match ds,h2 with
    |[a,b],_=>exact⟨a,b,rfl⟩
   have q:Q (.d (.bool (nj a&&js b))) n:=q;refine b8 (a:=ah) (b:=nj a&&js b) (λQ q=>av (fG (ds:=[a,b]) rfl (aJ q))) (λ_ Q q=>?_) q;exact b8 (a:=nj a) (b:=js b) (λQ q=>aW (fJ rfl ⟨a,rfl,J9 ok a (by simp),q⟩)) (λ_ Q q=>cX (g:=js) (λQ q=>gw rfl q) Q q) q
  ·rw[Vs h2]at q;exact b8 (a:=ai) (b:=ah) (λQ q=>av (fG rfl (aJ (show Q (.d (.bool (decide ((ds.length:Int)=2)))) n by rw[decide_eq_false ⋯];exact q)))) (λz=>nomatch z) q
 |_=>exact b8 (a:=ai) (b:=ai) (λQ q=>q) (λz=>nomatch z) q
def lC(h:Hw)(mv:V)(aN aH:Addr)(H:Hp)(R:Hp->Prop):Prop:=match h with
 |.note=>∃xs,H aN=ae (.lst xs)/\xs.length < A6/\R (upd H aN (.lst (xs++[mv])))
 |.hand=>∃hs,H aH=ae (.lst hs)/\hs.length < A6/\∀p,H p=af->R (upd (upd H p (.lst [])) aH (.lst (hs++[.ref p])))
 |.block=>∃hs a bs,H aH=ae (.lst hs)/\hs.getLast?=ae (.ref a)/\H a=ae (.lst bs)/\bs.length < A6/\∀p q,H p=af->(upd H p (.lst [])) q=af->R (upd (upd (upd H p (.lst [])) q (.tup [mv,.ref p])) a (.lst (bs++[.ref q])))
 |_=>∃hs a bs tp wv ac as,H aH=ae (.lst hs)/\hs.getLast?=ae (.ref a)/\H a=ae (.lst bs)/\bs.getLast?=ae (.ref tp)/\H tp=ae (.tup [wv,.ref ac])/\H ac=ae (.lst as)/\as.length < A6/\R (upd H ac (.lst (as++[mv])))
def KC:Sp:=λvs H Q _=>∃(h:Hw)(mv:V)(aN aH:Addr),vs=[.str h.s,mv,.ref aN,.ref aH]/\lC h mv aN aH H (Q .non)
theorem Me(h:Hw):decide (V.str h.s=V.str "hand")=decide (h.no=1):=by cases h<;>decide +kernel
theorem PU(h:Hw):decide (V.str h.s=V.str "note")=decide (h.no=0):=by cases h<;>decide +kernel
theorem OM(h:Hw):decide (V.str h.s=V.str "block")=decide (h.no=2):=by cases h<;>decide +kernel
section
variable{P:Bs}{w:B5}{K:Ag}{mg:Str->Option Aj}{base:Heap}
theorem BM(h:H a=ae (.lst xs))(e:xs.getLast?=ae x)(k:Q x H):jD K (.ref a) (.int (-1)) H Q:=.inl ⟨a,xs,_,x,rfl,rfl,SqL.of h,by rw[CP];exact e,k⟩
abbrev Zj:List Str:=["head","made","notes","hands"]
theorem YX(F:Fun K "put_line" "put_line" Je fa fd):FnOk P w K mg base dy 1 fa fd Zj KC:=by
 refine F.ok (N:=Zj) ⟨rfl,rfl,rfl,by decide +kernel,rfl,by decide +kernel,by decide +kernel⟩ (λvs H Q E h=>?_) (λcdv A outer s H vs Q E hr h=>?_)
 ·obtain⟨_,_,_,_,rfl,_⟩:=h;rfl
 obtain⟨h,mv,aN,aH,rfl,q⟩:=h;have app:∀{X:Cx}{o e:Expr}{to te:TE}{ap cp:Pos}(ho:PE X o to)(he:PE X e te)(hbase:E6 o "append" X.env (eval o X.env)=eval o X.env)(hline:(ap.endLine==cp.line)=ah)(hs:A8 [e] X.env=(ai,eval e X.env)::A8 [] X.env)(hfew:((Df cp (A8 [e] X.env)).all (λx=>!x.1)&&(backToKw cp (F7 [] X.env)).all (λx=>x.1.isSome)
   && decide ([e].length+([]:List Fb).length+(if ([]:List Fb).isEmpty then 0 else 1) < 30))=ah)(hpl:(Df cp (A8 [] X.env)).any (·.1)=ai),PE X (.Call (.Attribute o "append" ap) [e] [] cp) (jB X.K "list" yp to (cK te bF)):=λho he hb hl hs hf hp=>ml F9 PySem.F.slot_list_append PySem.F.type_list_append rZ ho (cH he dS hs) hb hf hl hs hp
 refine⟨_,ib (lh (jx op_eq (pv 0) nQ (kJ _)) (ib (ka (app (pv 2) (pv 1) rfl rfl rfl rfl rfl)))
  (ib (lh (jx op_eq (pv 0) nQ (kJ _)) (ib (ka (app (pv 3) (lL dS) rfl rfl rfl rfl rfl)))
   (ib (lh (jx op_eq (pv 0) nQ (kJ _)) (ib (ka (app (fR md (pv 3) (tu uf cC) (λ_ _=>rfl)) (DB (cH (pv 1) (cH (lL dS) dS))) rfl rfl rfl rfl rfl)))
    (ib (ka (app (fR md (fR md (fR md (pv 3) (tu uf cC) (λ_ _=>rfl)) (tu uf cC) (λ_ _=>rfl)) cC (λ_ _=>rfl)) (pv 1) rfl rfl rfl rfl rfl)))))))),?_⟩
 refine⟨_,rfl,rfl,_,rfl,?_⟩;rw[PU];by_cases h0:h.no=0
 ·rw[decide_eq_true h0];show if ah=ah then _ else _
  grind;cases h<;>first|cases h0|skip
  obtain⟨xs,e1,e2,k⟩:=q;exact⟨_,rfl,.inl ⟨rfl,_,SqL.of e1⟩,_,rfl,aN,xs,mv,rfl,rfl,e1,e2,k⟩
 rw[decide_eq_false h0];show if ai=ah then _ else _
 rw[if_neg Al];refine⟨_,rfl,rfl,_,rfl,?_⟩;rw[Me];by_cases h1:h.no=1
 ·rw[decide_eq_true h1];show if ah=ah then _ else _
  grind;cases h<;>first|cases h1|skip
  obtain⟨hs,e1,e2,k⟩:=q;exact⟨_,rfl,.inl ⟨rfl,_,SqL.of e1⟩,Bf _,λp hp=>⟨aH,hs,.ref p,rfl,rfl,by rw[bc (b5 e1 hp)];exact e1,e2,k p hp⟩⟩
 rw[decide_eq_false h1];show if ai=ah then _ else _
 rw[if_neg Al];refine⟨_,rfl,rfl,_,rfl,?_⟩;rw[OM];by_cases h2:h.no=2
 ·rw[decide_eq_true h2];show if ah=ah then _ else _
  grind;cases h<;>first|cases h2|skip
  obtain⟨hs,a,bs,e1,e2,e3,e4,k⟩:=q;refine⟨_,rfl,1,rfl,BM e1 e2 ⟨.inl ⟨rfl,_,SqL.of e3⟩,_,rfl,Bf _,λp hp=>⟨show 2<=A6 by decide,λq hq=>⟨a,bs,.ref q,rfl,rfl,?_,e4,k p q hp hq⟩⟩⟩⟩;have e5:upd H p (.lst []) a=ae (.lst bs):=by rw[bc (b5 e3 hp)];exact e3
  rw[bc (b5 e5 hq)];exact e5
 ·rw[decide_eq_false h2];show if ai=ah then _ else _
  rw[if_neg Al];have q':∃hs a bs tp wv ac as,H aH=ae (.lst hs)/\hs.getLast?=ae (.ref a)/\H a=ae (.lst bs)/\bs.getLast?=ae (.ref tp)/\H tp=ae (.tup [wv,.ref ac])/\H ac=ae (.lst as)/\as.length < A6/\Q .non (upd H ac (.lst (as++[mv]))):=by
   cases h<;>first|exact q|exact absurd rfl h0|exact absurd rfl h1|exact absurd rfl h2
  obtain⟨hs,a,bs,tp,wv,ac,as,e1,e2,e3,e4,e5,e6,e7,k⟩:=q';exact⟨_,rfl,1,rfl,BM e1 e2 ⟨1,rfl,BM e3 e4 (.inr (.inl ⟨tp,_,1,.ref ac,rfl,rfl,SqT.of e5,Iu _ _ _,.inl ⟨rfl,_,SqL.of e6⟩,_,rfl,ac,as,mv,rfl,rfl,e6,e7,k⟩))⟩⟩
end
abbrev iM:=List (Addr×HO)
def Hol(H:Hp)(l:iM):Prop:=∀p∈l,H p.1=ae p.2
def keys(l:iM):List Addr:=l.map (·.1)
theorem Hol.rep{l1 l2:iM}(h:Hol H (l1++(a,o)::l2))(nd:(keys (l1++(a,o)::l2)).Nodup):Hol (upd H a o') (l1++(a,o')::l2):=λp hp=>by
 have ne:∀q∈l1++l2,q.1≠a:=λq hq z=>by
  unfold keys at nd;rw[Bc,A3,List.nodup_append]at nd;obtain⟨n1,n2,n3⟩:=nd;rw[Fh]at n2;rcases Ax.mp hq with h|h
  ·exact n3 q.1 (G0 h) a Ae z
  ·exact n2.1 (Bi.mpr ⟨q,h,z⟩)
 rcases Ax.mp hp with hp|hp
 ·rw[bc (ne p (Bx _ hp))];exact h p (Bx _ hp)
 ·rcases Aq.mp hp with rfl|hp
  ·exact bL
  ·rw[bc (ne p (Az _ hp))];exact h p (Az _ (Af _ hp))
theorem Hol.add(h:Hol H l)(hp:H p=af):Hol (upd H p o) (l++[(p,o)]):=λq hq=>by
 rcases Ax.mp hq with hq|hq
 ·rw[bc (b5 (h q hq) hp)];exact h q hq
 ·rw[Au.mp hq];exact bL
theorem Hol.nkey(h:Hol H l)(hp:H p=af):p∉keys l:=λz=>by
 obtain⟨q,hq,e⟩:=Bi.mp z;have:=h q hq;rw[e,hp]at this;cases this
theorem Hol.nodup(h:Hol H l)(nd:(keys l).Nodup)(hp:H p=af):(keys (l++[(p,o)])).Nodup:=by
 unfold keys;rw[Bc,List.nodup_append];refine⟨nd,by simp,λa ha b hb z=>?_⟩;rw[List.map_singleton,Au]at hb;have hb:b=p:=hb;exact h.nkey hp (by rw[<-hb,<-z];exact ha)
theorem qP(l1 l2:iM)(a)(o o'):keys (l1++(a,o)::l2)=keys (l1++(a,o')::l2):=by unfold keys;rw[Bc,Bc];rfl
structure BN where
 tp:Addr
 wv:V
 ac:Addr
 as:List V
 d:Aa
 ds:List Aa
abbrev HN:=Addr×List BN
def BN.ob(b:BN):iM:=[(b.tp,.tup [b.wv,.ref b.ac]),(b.ac,.lst b.as)]
def f7(h:HN):HO:=.lst (h.2.map λb=>V.ref b.tp)
def cZ(h:HN):iM:=(h.1,f7 h)::h.2.flatMap BN.ob
def eT(tr:List HN):HO:=.lst (tr.map λh=>V.ref h.1)
def bb(aN aH:Addr)(xN:List V)(tr:List HN):iM:=(aN,.lst xN)::(aH,eT tr)::tr.flatMap cZ
def dI(tr:List HN):Hs:=tr.map λh=>h.2.map λb=>(b.d,b.ds)
def BT(B:Addr->Prop)(l:iM)(b:Addr):Prop:=B b\/b∈keys l
structure Tre(H0 H:Hp)(B:Addr->Prop)(aN aH:Addr)(xN:List V)(ns:List Aa)(tr:List HN):Prop where
 hol:Hol H (bb aN aH xN tr)
 nd:(keys (bb aN aH xN tr)).Nodup
 fr:∀a∈keys (bb aN aH xN tr),H0 a=af
 rN:RdXs H (BT B (bb aN aH xN tr)) xN ns
 rB:∀h∈tr,∀b∈h.2,RdX H (BT B (bb aN aH xN tr)) b.wv b.d/\RdXs H (BT B (bb aN aH xN tr)) b.as b.ds
 sz:ns.length<=12/\tr.length<=5/\∀h∈tr,h.2.length<=6/\∀b∈h.2,b.ds.length<=8
section
variable{H0 H H':Hp}{B:Addr->Prop}{aN aH:Addr}{xN:List V}{ns:List Aa}{tr:List HN}
theorem sD(h:Hol H l)(k:∀b o,H b=ae o->b∉keys l->H' b=ae o)(n:∀b∈keys l',b∈keys l\/H b=af):∀b o,H b=ae o->¬BT B l b->H' b=ae o/\¬BT B l' b:=λb o e nb=>
 ⟨k b o e λz=>nb (.inr z),λz=>z.elim (λz=>nb (.inl z)) λz=>(n b z).elim (λz=>nb (.inr z)) λz=>by rw[e]at z;cases z⟩
theorem Tre.notes(T:Tre H0 H B aN aH xN ns tr):H aN=ae (.lst xN):=T.hol _ Ae
theorem Tre.hands(T:Tre H0 H B aN aH xN ns tr):H aH=ae (eT tr):=T.hol _ (Af _ Ae)
theorem Tre.hand(T:Tre H0 H B aN aH xN ns tr)(hh:h∈tr):H h.1=ae (f7 h):=T.hol (h.1,f7 h) (Af _ (Af _ (Cg.mpr ⟨h,hh,Ae⟩)))
theorem Tre.blk(T:Tre H0 H B aN aH xN ns tr)(hh:h∈tr)(hb:b∈h.2):H b.tp=ae (.tup [b.wv,.ref b.ac])/\H b.ac=ae (.lst b.as):=
 ⟨T.hol (b.tp,.tup [b.wv,.ref b.ac]) (Af _ (Af _ (Cg.mpr ⟨h,hh,Af _ (Cg.mpr ⟨b,hb,Ae⟩)⟩))),
  T.hol (b.ac,.lst b.as) (Af _ (Af _ (Cg.mpr ⟨h,hh,Af _ (Cg.mpr ⟨b,hb,Af _ Ae⟩)⟩)))⟩
theorem Tre.out(T:Tre H0 H B aN aH xN ns tr)(k:Kp t H H')(bt:B t)(h0:H0 t≠af):Tre H0 H' B aN aH xN ns tr:=
 have nt:∀a∈keys (bb aN aH xN tr),a≠t:=λa ha z=>h0 (z▸T.fr a ha);have g:∀b o,H b=ae o->¬BT B (bb aN aH xN tr) b->H' b=ae o/\¬BT B (bb aN aH xN tr) b:=λb o e n=>⟨k b o e λz=>n (.inl (z▸bt)),n⟩
 ⟨λp hp=>k _ _ (T.hol p hp) (nt _ (G0 hp)),T.nd,T.fr,T.rN.move g,λh hh b hb=>⟨(T.rB h hh b hb).1.move g,(T.rB h hh b hb).2.move g⟩,T.sz⟩
theorem Tre.dataN(T:Tre H0 H B aN aH xN ns tr)(hB:∀b,B b->H0 b≠af):RdX H B (.ref aN) (.list ns):=by
 refine .lst T.notes (λz=>hB aN z (T.fr aN Ae)) ?_ (T.rN.less λb z=>.inl z);rw[T.rN.len];exact A4 T.sz.1 ∎
theorem Tre.dataH(T:Tre H0 H B aN aH xN ns tr)(hB:∀b,B b->H0 b≠af):RdX H B (.ref aH) (jv (dI tr)):=by
 have nb:∀a∈keys (bb aN aH xN tr),¬B a:=λa ha z=>hB a z (T.fr a ha);refine .lst T.hands (nb aH (Af _ Ae)) (by rw[Ab];exact A4 T.sz.2.1 ∎) ?_;have key:∀l:List HN,(∀h∈l,h∈tr)->RdXs H B (l.map λh=>V.ref h.1) ((dI l).map cD):=λl=>by
  induction l with
  |nil=>exact λ_=>.nil
  |cons h l ih=>
   intro hl;have hh:=hl h Ae;refine .cons (.lst (T.hand hh) (nb _ (Af _ (Af _ (Bi.mpr ⟨(h.1,f7 h),Cg.mpr ⟨h,hh,Ae⟩,rfl⟩)))) (by rw[Ab];exact A4 (T.sz.2.2 h hh).1 ∎) ?_) (ih λx hx=>hl x (Af _ hx));have kb:∀l:List BN,(∀b∈l,b∈h.2)->RdXs H B (l.map λb=>V.ref b.tp) ((l.map λb=>(b.d,b.ds)).map jI):=λl=>by
    induction l with
    |nil=>exact λ_=>.nil
    |cons b l ih2=>
     intro hb;have hbm:=hb b Ae;have mk:∀x∈BN.ob b,x.1∈keys (bb aN aH xN tr):=λx hx=>Af _ (Af _ (Bi.mpr ⟨x,Cg.mpr ⟨h,hh,Af _ (Cg.mpr ⟨b,hbm,hx⟩)⟩,rfl⟩));have r:=T.rB h hh b hbm;refine .cons (.tup (T.blk hh hbm).1 (nb _ (mk _ Ae)) (show 2<=A6 by decide) (.cons (r.1.less λb z=>.inl z) (.cons (.lst (T.blk hh hbm).2 (nb _ (mk _ (Af _ Ae))) ?_ (r.2.less λb z=>.inl z)) .nil))) (ih2 λx hx=>hb x (Af _ hx));rw[r.2.len];exact A4 ((T.sz.2.2 h hh).2 b hbm) ∎
   exact kb h.2 λb hb=>hb
 exact key tr λh hh=>hh
theorem Tre.note(T:Tre H0 H B aN aH xN ns tr)(hv:RdX H (BT B (bb aN aH xN tr)) v d)(hl:ns.length < 12):Tre H0 (upd H aN (.lst (xN++[v]))) B aN aH (xN++[v]) (ns++[d]) tr:=by
 have kk:keys (bb aN aH xN tr)=keys (bb aN aH (xN++[v]) tr):=rfl;have g:∀b o,H b=ae o->¬BT B (bb aN aH xN tr) b->upd H aN (.lst (xN++[v])) b=ae o/\¬BT B (bb aN aH (xN++[v]) tr) b:=sD T.hol (λb o e nb=>by rw[bc λ(z:b=aN)=>nb (z▸Ae)];exact e) λb hb=>.inl (by rw[kk];exact hb);exact⟨Hol.rep (l1:=[]) T.hol T.nd,T.nd,T.fr,(T.rN.move g).append (.cons (hv.move g) .nil),λh hh b hb=>⟨(T.rB h hh b hb).1.move g,(T.rB h hh b hb).2.move g⟩,by rw[Ah,As];exact⟨by omega,T.sz.2⟩⟩
theorem Tre.newHand(T:Tre H0 H B aN aH xN ns tr)(hp:H p=af)(f0:∀x,H x=af->H0 x=af)(hl:tr.length < 5):Tre H0 (upd (upd H p (.lst [])) aH (eT (tr++[(p,[])]))) B aN aH xN ns (tr++[(p,[])]):=by
 have e:bb aN aH xN (tr++[(p,[])])=[(aN,.lst xN)]++(aH,eT (tr++[(p,[])]))::(tr.flatMap cZ++[(p,.lst [])]):=by
  unfold bb;rw[Cy];rfl
 have e0:bb aN aH xN tr++[(p,.lst [])]=[(aN,.lst xN)]++(aH,eT tr)::(tr.flatMap cZ++[(p,.lst [])]):=rfl;have h1:Hol (upd H p (.lst [])) ([(aN,.lst xN)]++(aH,eT tr)::(tr.flatMap cZ++[(p,.lst [])])):=by rw[<-e0];exact T.hol.add hp
 have n1:(keys ([(aN,.lst xN)]++(aH,eT tr)::(tr.flatMap cZ++[(p,.lst [])]))).Nodup:=by rw[<-e0];exact T.hol.nodup T.nd hp
 have kk:∀b,b∈keys (bb aN aH xN (tr++[(p,[])]))->b∈keys (bb aN aH xN tr)\/b=p:=λb hb=>by
  rw[e,<-qP _ _ aH (eT tr),<-e0]at hb;unfold keys at hb;rw[Bc]at hb;exact(Ax.mp hb).imp id λz=>Au.mp z
 have g:∀b o,H b=ae o->¬BT B (bb aN aH xN tr) b->upd (upd H p (.lst [])) aH (eT (tr++[(p,[])])) b=ae o/\¬BT B (bb aN aH xN (tr++[(p,[])])) b:=sD T.hol (λb o e nb=>by
  rw[bc λ(z:b=aH)=>nb (z▸Af _ Ae),bc (b5 e hp)];exact e) λb hb=>(kk b hb).imp id λz=>by rw[z];exact hp
 refine⟨by rw[e];exact h1.rep n1,by rw[e,<-qP _ _ aH (eT tr)];exact n1,λa ha=>?_,T.rN.move g,λh hh b hb=>?_,T.sz.1,by rw[Ah,As];omega,λh hh=>?_⟩
 ·rcases kk a ha with z|rfl
  ·exact T.fr a z
  ·exact f0 _ hp
 ·rcases Ax.mp hh with hh|hh
  ·exact⟨(T.rB h hh b hb).1.move g,(T.rB h hh b hb).2.move g⟩
  ·rw[Au.mp hh]at hb;exact absurd hb Av
 ·rcases Ax.mp hh with hh|hh
  ·exact T.sz.2.2 h hh
  ·rw[Au.mp hh];exact⟨Bf _,λb hb=>absurd hb Av⟩
theorem Tre.newBlock{a:Addr}{bs:List BN}(T:Tre H0 H B aN aH xN ns (tr0++[(a,bs)]))(hv:RdX H (BT B (bb aN aH xN (tr0++[(a,bs)]))) mv d)(hp:H p=af)(hq:upd H p (.lst []) q=af)(f0:∀x,H x=af->H0 x=af)(hl:bs.length < 6):
  Tre H0 (upd (upd (upd H p (.lst [])) q (.tup [mv,.ref p])) a (f7 (a,bs++[⟨q,mv,p,[],d,[]⟩]))) B aN aH xN ns (tr0++[(a,bs++[⟨q,mv,p,[],d,[]⟩])]):=by
 have hqp:q≠p:=λz=>by rw[z,bL]at hq;cases hq
 have hq0:H q=af:=by rw[bc hqp]at hq;exact hq
 have eL:eT (tr0++[(a,bs++[⟨q,mv,p,[],d,[]⟩])])=eT (tr0++[(a,bs)]):=by unfold eT;rw[Bc,Bc];rfl
 have e:bb aN aH xN (tr0++[(a,bs++[⟨q,mv,p,[],d,[]⟩])])=((aN,.lst xN)::(aH,eT (tr0++[(a,bs)]))::tr0.flatMap cZ)++(a,f7 (a,bs++[⟨q,mv,p,[],d,[]⟩]))::(bs.flatMap BN.ob++[(q,.tup [mv,.ref p]),(p,.lst [])]):=by
  unfold bb;rw[eL,Cy];show _::_::(tr0.flatMap cZ++((cZ (a,bs++[⟨q,mv,p,[],d,[]⟩]))++[]))=_;unfold cZ;rw[Cy,A5];rfl
 have eo:bb aN aH xN (tr0++[(a,bs)])=((aN,.lst xN)::(aH,eT (tr0++[(a,bs)]))::tr0.flatMap cZ)++(a,f7 (a,bs))::bs.flatMap BN.ob:=by
  unfold bb;rw[Cy];show _::_::(tr0.flatMap cZ++((cZ (a,bs))++[]))=_;rw[A5];rfl
 have h1:Hol (upd (upd H p (.lst [])) q (.tup [mv,.ref p])) (bb aN aH xN (tr0++[(a,bs)])++[(q,.tup [mv,.ref p]),(p,.lst [])]):=λx hx=>by
  rcases Ax.mp hx with hx|hx
  ·have:=T.hol x hx;rw[bc (b5 this hq0),bc (b5 this hp)];exact this
  ·rcases Aq.mp hx with rfl|hx
   ·exact bL
   ·rw[Au.mp hx];show upd (upd H p (.lst [])) q (.tup [mv,.ref p]) p=_;rw[bc (Ne.symm hqp)];exact bL
 have n1:(keys (bb aN aH xN (tr0++[(a,bs)])++[(q,.tup [mv,.ref p]),(p,.lst [])])).Nodup:=by
  unfold keys;rw[Bc,List.nodup_append];refine⟨T.nd,by simp[hqp],λx hx y hy z=>?_⟩;subst z;rcases Aq.mp hy with rfl|hy
  ·exact T.hol.nkey hq0 hx
  ·rw[List.map_singleton,Au]at hy;subst hy;exact T.hol.nkey hp hx
 have e1:bb aN aH xN (tr0++[(a,bs)])++[(q,.tup [mv,.ref p]),(p,.lst [])]=((aN,.lst xN)::(aH,eT (tr0++[(a,bs)]))::tr0.flatMap cZ)++(a,f7 (a,bs))::(bs.flatMap BN.ob++[(q,.tup [mv,.ref p]),(p,.lst [])]):=by rw[eo,A9];rfl
 rw[e1]at h1 n1;have kk:∀b,b∈keys (bb aN aH xN (tr0++[(a,bs++[⟨q,mv,p,[],d,[]⟩])]))->b∈keys (bb aN aH xN (tr0++[(a,bs)]))\/b=q\/b=p:=λb hb=>by
  rw[e,<-qP _ _ a (f7 (a,bs)),<-e1]at hb;unfold keys at hb;rw[Bc]at hb;exact(Ax.mp hb).imp id λz=>by simpa using z
 have ha:a∈keys (bb aN aH xN (tr0++[(a,bs)])):=by
  rw[eo];unfold keys;rw[Bc];exact Az _ Ae
 have g:∀b o,H b=ae o->¬BT B (bb aN aH xN (tr0++[(a,bs)])) b->upd (upd (upd H p (.lst [])) q (.tup [mv,.ref p])) a (f7 (a,bs++[⟨q,mv,p,[],d,[]⟩])) b=ae o/\¬BT B (bb aN aH xN (tr0++[(a,bs++[⟨q,mv,p,[],d,[]⟩])])) b:=sD T.hol (λb o e nb=>by
  rw[bc λ(z:b=a)=>nb (z▸ha),bc (b5 e hq0),bc (b5 e hp)];exact e) λb hb=>(kk b hb).imp id λz=>z.elim (λz=>by rw[z];exact hq0) λz=>by rw[z];exact hp
 refine⟨by rw[e];exact h1.rep n1,by rw[e,<-qP _ _ a (f7 (a,bs))];exact n1,λx hx=>?_,T.rN.move g,λh hh b hb=>?_,T.sz.1,by have:=T.sz.2.1;rw[Ah]at this ⊢;exact this,λh hh=>?_⟩
 ·rcases kk x hx with z|rfl|rfl
  ·exact T.fr x z
  ·exact f0 _ hq0
  ·exact f0 _ hp
 ·rcases Ax.mp hh with hh|hh
  ·have:=T.rB h (Bx _ hh) b hb;exact⟨this.1.move g,this.2.move g⟩
  ·rw[Au.mp hh]at hb;rcases Ax.mp hb with hb|hb
   ·have:=T.rB (a,bs) (Az _ Ae) b hb;exact⟨this.1.move g,this.2.move g⟩
   ·rw[Au.mp hb];exact⟨hv.move g,.nil⟩
 ·rcases Ax.mp hh with hh|hh
  ·exact T.sz.2.2 h (Bx _ hh)
  ·rw[Au.mp hh];have:=T.sz.2.2 (a,bs) (Az _ Ae);refine⟨by show(bs++[_]).length<=6;rw[Ah,As];omega,λb hb=>?_⟩;rcases Ax.mp hb with hb|hb
   ·exact this.2 b hb
   ·rw[Au.mp hb];exact Bf _
theorem Tre.newAct{a:Addr}{b:BN}(T:Tre H0 H B aN aH xN ns (tr0++[(a,bs++[b])]))(hv:RdX H (BT B (bb aN aH xN (tr0++[(a,bs++[b])]))) mv d)(hl:b.ds.length < 8):
  Tre H0 (upd H b.ac (.lst (b.as++[mv]))) B aN aH xN ns (tr0++[(a,bs++[{ b with as:=b.as++[mv],ds:=b.ds++[d]}])]):=by
 have eL:eT (tr0++[(a,bs++[{ b with as:=b.as++[mv],ds:=b.ds++[d]}])])=eT (tr0++[(a,bs++[b])]):=by unfold eT;rw[Bc,Bc];rfl
 have eh:f7 (a,bs++[{ b with as:=b.as++[mv],ds:=b.ds++[d]}])=f7 (a,bs++[b]):=by unfold f7;show HO.lst (Ea _ (bs++[_]))=HO.lst (Ea _ (bs++[_]));rw[Bc,Bc];rfl
 have form:∀(b':BN),b'.tp=b.tp->b'.wv=b.wv->b'.ac=b.ac->bb aN aH xN (tr0++[(a,bs++[b'])])=((aN,.lst xN)::(aH,eT (tr0++[(a,bs++[b'])]))::(tr0.flatMap cZ++((a,f7 (a,bs++[b']))::(bs.flatMap BN.ob++[(b.tp,.tup [b.wv,.ref b.ac])]))))++(b.ac,.lst b'.as)::[]:=λb' e1 e2 e3=>by
  unfold bb;rw[Cy];show _::_::(tr0.flatMap cZ++((cZ (a,bs++[b']))++[]))=_;unfold cZ;rw[Cy,A5];show _::_::(_++_::(bs.flatMap BN.ob++(BN.ob b'++[])))=_;unfold BN.ob;rw[e1,e2,e3];simp
 have eo:=form b rfl rfl rfl;have en:=form {b with as:=b.as++[mv],ds:=b.ds++[d]} rfl rfl rfl;rw[eL,eh]at en;have hol:=T.hol;have nd:=T.nd;rw[eo]at hol nd;have kk:keys (bb aN aH xN (tr0++[(a,bs++[{ b with as:=b.as++[mv],ds:=b.ds++[d]}])]))=keys (bb aN aH xN (tr0++[(a,bs++[b])])):=by rw[en,eo];exact(qP _ _ _ _ _)
 have ha:b.ac∈keys (bb aN aH xN (tr0++[(a,bs++[b])])):=by
  rw[eo];unfold keys;rw[Bc];exact Az _ Ae
 have g:∀x o,H x=ae o->¬BT B (bb aN aH xN (tr0++[(a,bs++[b])])) x->upd H b.ac (.lst (b.as++[mv])) x=ae o/\¬BT B (bb aN aH xN (tr0++[(a,bs++[{ b with as:=b.as++[mv],ds:=b.ds++[d]}])])) x:=sD T.hol (λx o e nb=>by
  rw[bc λ(z:x=b.ac)=>nb (z▸ha)];exact e) λx hx=>.inl (by rw[kk]at hx;exact hx)
 have hb0:=T.rB (a,bs++[b]) (Az _ Ae);refine⟨by rw[en];exact hol.rep nd,by rw[kk];exact T.nd,λx hx=>T.fr x (by rw[<-kk];exact hx),T.rN.move g,λh hh c hc=>?_,T.sz.1,by have:=T.sz.2.1;rw[Ah]at this ⊢;exact this,λh hh=>?_⟩
 ·rcases Ax.mp hh with hh|hh
  ·have:=T.rB h (Bx _ hh) c hc;exact⟨this.1.move g,this.2.move g⟩
  ·rw[Au.mp hh]at hc;rcases Ax.mp hc with hc|hc
   ·have:=hb0 c (Bx _ hc);exact⟨this.1.move g,this.2.move g⟩
   ·rw[Au.mp hc];have:=hb0 b (Az _ Ae);exact⟨this.1.move g,(this.2.move g).append (.cons (hv.move g) .nil)⟩
 ·rcases Ax.mp hh with hh|hh
  ·exact T.sz.2.2 h (Bx _ hh)
  ·rw[Au.mp hh];have:=T.sz.2.2 (a,bs++[b]) (Az _ Ae);refine⟨by have:=this.1;show(bs++[_]).length<=6;rw[Ah]at this ⊢;exact this,λc hc=>?_⟩;rcases Ax.mp hc with hc|hc
   ·exact this.2 c (Bx _ hc)
   ·rw[Au.mp hc];show(b.ds++[d]).length<=8;rw[Ah,As];omega
end
theorem My(R:Rel C H B σ δ n)(h:σ'.length=k):Rel C H B σ' (C0 k af) n:=by
 have nn:∀(i:Nat)(y:SV),(C0 k af)[i]?≠ae (ae y):=λi y e=>by
  rw[D9]at e
  split at e<;>cases e
 exact⟨R.tp,R.kp,R.t0,R.l0,R.g0,R.fz,R.bt,R.b0,R.ba,R.a0,λi y e=>absurd e (nn i y),λi j y z u e=>absurd e (nn i y),by rw[h,Gp]⟩
theorem uT:∀{vs:List V}{ls:List Str},RdXs H B vs (ls.map .str)->vs=ls.map V.str
 |_,[],.nil=>rfl
 |_,l::ls,.cons h r=>by
  cases h;rw[uT r];rfl
abbrev BF:aL:=aq (aX (cT (az mW (ao ↥2 ak))) m6 aG) (aq (aT 6 (aB (ao (wB gD (ao (aV (bB [af] (eY ↥2) (aF 0) aQ (az rS (ao ↥0 ak)))) ak)) (ao (wB gD (ao ↥1 ak)) ak)))) (aq (og (az mi (ao ↥6 ak))) (aw ↥6)))
def yh:aL:=λδ n K=>∃(w:Wv)(ls:List Str)(ns:List Aa)(hs:Hs)(Ps:List (List Bl)),δ=ae (.w w)::C0 6 af/\fm w=ae (ls.map .str)/\RdOk ls ns hs Ps/\K.rt ‹[.tuple (Ps.map bE),.tuple ns]› n
abbrev Zd:List Str:=["lines","notes","hands","line","text","words","plan"]
theorem NG:bS kg yh Zd:=λws n Q h=>by
 obtain⟨w,ls,ns,hs,Ps,rfl,h1,h2,q⟩:=h;exact⟨w,ls,ns,hs,Ps,rfl,h1,h2,q⟩
theorem ZK(hb:∀bs∈hs,bs.length<=100)(h:hZ hs=ai)(e1:hs.map (λbs=>Fx (bs.map eX))=Ps.map bE)(e2:∀P∈Ps,P.length<=100/\∀b∈P,eS b)(hr:jE ns.length Ps=af)(q:K.rt ‹[.tuple (Ps.map bE),.tuple ns]› n):BF [x0,↑(.list ns),↑(jv hs),x3,x4,x5,x6] n K:=by
 have cl:∀Q:Bool->Int->Prop,Q (hZ hs) n->cT (az mW (ao ↥2 ak)) [x0,↑(.list ns),↑(jv hs),x3,x4,x5,x6] n Q:=λQ q=>aC (λQ q=>aW (au rfl ⟨hs,rfl,q⟩)) q;refine aA (aU (λQ q=>cl Q (by rw[h];exact q)) ?_);ac_rfl;refine aA (dz (x:=.tuple [.tuple (Ps.map bE),.tuple ns]) (λQ q=>dD (aZ (bf ?_))) ?_)
 ·unfold bB eY;refine au rfl ?_;have key:∀(re:List (List Bk)),(∀bs∈re,bs.length<=100)->∀(acc:List Aa)(x:Option SV)(R:List Aa->Int->Prop),R (acc++re.map (λbs=>Fx (bs.map eX))) n->cM (aF 0) aQ (az rS (ao ↥0 ak)) R (re.map cD) acc [x] n:=λre=>by
   induction re with
   |nil=>
    intro _ acc x R k;rw[Bo,A5]at k;exact k
   |cons b re ih=>
    intro hb acc x R k;rw[A3];unfold cM;dsimp only[aF,Aw,aQ];grind;refine aW (au rfl ⟨b,rfl,hb b Ae,?_⟩);refine ih (λbs h=>hb bs (Af _ h)) (acc++[.tuple (b.map eX)]) _ R ?_;rw[A9];exact k
  refine key hs hb [] _ _ ?_;rw[Bz,e1];refine(show gD [.d (.list (Ps.map bE))] n _ from aZ (au rfl (show gD [.d (.list ns)] n _ from An (show 2<=1000 by decide) q)))
 ac_nf;refine aA (show og _ _ _ _ from aW (au rfl ⟨Ps,ns,rfl,e2,hr,?_⟩));dsimp only;exact aY (au rfl q)
structure Nv(C:DL.Ctx)(H:Hp)(n:Int)(H':Hp):Prop where
 tp:Tp H' C.t C.l C.ns n
 kp:Kp C.t H H'
section
variable{C:DL.Ctx}{H H' H'':Hp}{n:Int}{a p:Addr}{o:HO}
theorem Nv.upd(N:Nv C H n H')(t0:Tp H C.t C.l C.ns n)(ha:H a=af):Nv C H n (L2.upd H' a o) where
 tp:=N.tp.other (λz=>by obtain⟨_,_,h,_⟩:=t0.ob;rw[z,ha]at h;cases h) (λz=>by have:=t0.ls;rw[z,ha]at this;cases this) (λe z=>by have:=t0.ag e;rw[z,ha]at this;cases this)
 kp:=λb o' e ne=>by rw[bc (b5 e ha)];exact N.kp b o' e ne
theorem Nv.out(N:Nv C H n H')(T:Tp H'' C.t C.l C.ns n)(k:Kp C.t H' H''):Nv C H n H'':=⟨T,N.kp.trans k⟩
theorem Nv.fresh(N:Nv C H n H')(hp:H' p=af):H p=af:=by
 have nt:p≠C.t:=λz=>by obtain⟨_,_,h,_⟩:=N.tp.ob;rw[<-z,hp]at h;cases h
 cases e:H p with
 |none=>rfl
 |some o=>rw[N.kp p o e nt]at hp;cases hp
theorem Nv.new(N:Nv C H n H')(t0:Tp H C.t C.l C.ns n)(hp:H' p=af):Nv C H n (L2.upd H' p o):=N.upd t0 (N.fresh hp)
end
theorem U3(c:bV h ns hs=ah):∃hw:Hw,km h=ae hw/\h=hw.s:=by
 have key:∀hw:Hw,km hw.s=ae hw:=λhw=>by cases hw<;>rfl
 have:h="note"\/h="hand"\/h="block"\/bG (.str h) ((Za:List Str).map .str)=ah:=by
  unfold bV at c;by_cases h0:h="note"
  ·exact .inl h0
  rw[if_neg h0]at c;by_cases h1:h="hand"
  ·exact .inr (.inl h1)
  rw[if_neg h1]at c;by_cases h2:h="block"
  ·exact .inr (.inr (.inl h2))
  rw[if_neg h2]at c;by_cases h3:bG (.str h) ((Za:List Str).map .str)=ah
  ·exact .inr (.inr (.inr h3))
  rw[if_neg h3]at c;cases c
 rcases this with rfl|rfl|rfl|e
 ·exact⟨.note,key .note,rfl⟩
 ·exact⟨.hand,key .hand,rfl⟩
 ·exact⟨.block,key .block,rfl⟩
 ·rw[kB]at e;have e:=of_decide_eq_true e;simp only[Aq,Av,or_false]at e;rcases e with rfl|rfl|rfl|rfl|rfl|rfl
  ·exact⟨.lay,key .lay,rfl⟩
  ·exact⟨.take,key .take,rfl⟩
  ·exact⟨.read,key .read,rfl⟩
  ·exact⟨.look,key .look,rfl⟩
  ·exact⟨.same,key .same,rfl⟩
  ·exact⟨.go,key .go,rfl⟩
theorem VQ{hw:Hw}(c:bV hw.s ns hs=ah)(h:3<=hw.no):∃bs b,hs.getLast?=ae bs/\bs.getLast?=ae b/\b.2.length < 8:=by
 unfold bV at c;have n0:hw.s≠"note":=by cases hw<;>first|(intro z;revert h;decide)|decide +kernel
 have n1:hw.s≠"hand":=by cases hw<;>first|(intro z;revert h;decide)|decide +kernel
 have n2:hw.s≠"block":=by cases hw<;>first|(intro z;revert h;decide)|decide +kernel
 have n3:bG (.str hw.s) ((Za:List Str).map .str)=ah:=by cases hw<;>first|exact absurd h ∎|decide +kernel
 rw[if_neg n0,if_neg n1,if_neg n2,if_pos n3]at c;cases e:hs.getLast? with
 |none=>rw[e]at c;cases c
 |some bs=>
  rw[e]at c;dsimp only at c;cases e2:bs.getLast? with
  |none=>rw[e2]at c;cases c
  |some b=>
   rw[e2]at c;exact⟨bs,b,rfl,e2,of_decide_eq_true c⟩
theorem yX{α:Type}{l:List α}{x:α}(h:l.getLast?=ae x):∃l0,l=l0++[x]:=by
 have hne:l≠[]:=λz=>by rw[z]at h;cases h
 refine⟨l.dropLast,?_⟩;rw[List.getLast?_eq_some_getLast hne]at h;cases h;exact(List.dropLast_concat_getLast hne).symm
theorem lq(tr)(h:HN):dI (tr++[h])=dI tr++[h.2.map λb=>(b.d,b.ds)]:=by unfold dI;rw[Bc];rfl
abbrev GD(K:Ag):TE:=d3 (jD K) (b9 5) (tC (.int 0))
abbrev zp(K:Ag):TS:=ng (iC KC [] E0 (cK (GD K) (cK (iC (eM sG) [] E0 (cK (b9 3) (cK (b9 5) bF))) (cK (b9 1) (cK (b9 2) bF)))))
abbrev xK(K:Ag):TS:=lE (lD (tB (iC (eM tJ) [] E0 (cK (GD K) (cK (b9 1) (cK (b9 2) bF)))))) (λ_ _ _=>False) zP
abbrev oq(K:Ag):TS:=gJ (c9 (jB K "str" vJ (b9 4) (cK (tC (.str " ")) bF)) (fB 5)) (gJ (xK K) (zp K))
abbrev JM(K:Ag)(Ts:TS):TS:=gJ (c9 (j6 bF) (fB 1)) (gJ (c9 (j6 bF) (fB 2)) (gJ (j4 (sT K (cK (b9 0) bF)) (jd K 2 (mK (fB 3) (mK (fB 4) j3))) (oq K)) Ts))
theorem UU{α:Type}{l:List α}{x:α}(h:l[i]?=ae x):l.drop i=x::l.drop (i+1):=by
 obtain⟨hi,e⟩:=Bu.mp h;rw[G8 hi,e]
theorem V0(hs:iq Ts BF):iq (JM K Ts) yh:=λC H B σ δ n Kd D R q Eo=>by
 obtain⟨w,ls,nsF,hsF,Ps,rfl,hw,ok,q⟩:=q;obtain⟨hl,hx,hlp,hlk,hpl,hwf,hrw⟩:=ok;obtain⟨v0,e0,r0,_⟩:=R.sl 0 _ rfl;obtain⟨al,hal,hat,rfl⟩:∃a,H a=ae (.lst (ls.map V.str))/\a≠C.t/\v0=.ref a:=by
  cases w with
  |ln ds=>
   cases hw;obtain⟨a,xs,rfl,h1,h2,h3,h4⟩:=r0;rw[uT h4]at h1;exact⟨a,h1,h2,rfl⟩
  |d x=>
   cases x with
   |list ds=>
    cases hw;cases(show RdX H B v0 (.list (ls.map .str))from r0)with
    |@lst aa vs _ e1 e2 e3 e4=>
     rw[uT e4]at e1;exact⟨aa,e1,λz=>e2 (z▸R.bt),rfl⟩
   |_=>cases hw
  |_=>cases hw
 obtain⟨σ0,rfl,hσ⟩:∃σ0,σ=ae (V.ref al)::σ0/\σ0.length=6:=by
  have:=R.len;cases σ with
  |nil=>cases e0
  |cons a r=>
   rw[Bg]at e0;cases e0;exact⟨r,rfl,by simpa using this⟩
 obtain⟨s1,s2,s3,s4,s5,s6,rfl⟩:∃a b c d e f,σ0=[a,b,c,d,e,f]:=by
  match σ0,hσ with
  |[a,b,c,d,e,f],_=>exact⟨a,b,c,d,e,f,rfl⟩
 have tH:H C.t≠af:=by obtain⟨_,_,h,_⟩:=R.tp.ob;rw[h];exact λz=>nomatch z
 have hB:∀b,B b->H b≠af:=R.ba
 refine⟨Bf _,λaN hN=>⟨Bf _,λaH hH=>?_⟩⟩;have hNH:aH≠aN:=λz=>by rw[z,bL]at hH;cases hH
 have hH0:H aH=af:=by rw[bc hNH]at hH;exact hH
 have tp1:Tp (upd (upd H aN (.lst [])) aH (.lst [])) C.t C.l C.ns n:=(R.tp.new hN).new hH;have kp1:Kp C.t H (upd (upd H aN (.lst [])) aH (.lst [])):=(Kp.new hN).trans (Kp.new hH);have T0:Tre H (upd (upd H aN (.lst [])) aH (.lst [])) B aN aH [] [] []:=by
  refine⟨λp hp=>?_,?_,λa ha=>?_,.nil,λh hh=>absurd hh Av,Bf _,Bf _,λh hh=>absurd hh Av⟩
  ·rcases Aq.mp hp with rfl|hp
   ·show upd (upd H aN (.lst [])) aH (.lst []) aN=_;rw[bc (Ne.symm hNH)];exact bL
   ·rw[Au.mp hp];exact bL
  ·show[aN,aH].Nodup;simp[Ne.symm hNH]
  ·rcases Aq.mp ha with rfl|ha
   ·exact hN
   ·rw[Au.mp ha];exact hH0
 show j4 (sT K (cK (b9 0) bF)) (jd K 2 (mK (fB 3) (mK (fB 4) j3))) (oq K) {D with nx:=Ts D} [ae (.ref al),ae (.ref aN),ae (.ref aH),s3,s4,s5,s6] (upd (upd H aN (.lst [])) aH (.lst []));have lsAt:∀{H'},Nv C H n H'->SqL K H' al (ls.map V.str):=λN=>SqL.of (N.kp al _ hal hat);have N0:Nv C H n (upd (upd H aN (.lst [])) aH (.lst [])):=⟨tp1,kp1⟩;refine⟨_,rfl,al,rfl,.inr ⟨⟨_,lsAt N0⟩,?_⟩⟩
 let Iv:Nat->St->Hp->Prop:=λi σ' H'=>∃xN ns tr t3 t4 t5 t6,σ'=[ae (.ref al),ae (.ref aN),ae (.ref aH),t3,t4,t5,t6]/\Tre H H' B aN aH xN ns tr/\Nv C H n H'/\gH i ((ls.drop i).map λx=>D1 x fI) ns (dI tr)=.inr (nsF,hsF)
 have relB:∀{σ':St}{H':Hp},Nv C H n H'->σ'.length=7->Rel C H' B σ' (C0 7 af) n:=λN h=>My (R.step N.tp N.kp) h;refine⟨λi m σ' H'=>m=ls.length-i/\i<=ls.length/\Iv i σ' H',⟨_,rfl,Bf _,[],[],[],s3,s4,s5,s6,rfl,T0,N0,hlp⟩,?_⟩
 rintro i m σ' H' ⟨rfl,hile,xN,ns,tr,t3,t4,t5,t6,rfl,T,N,ql⟩
 by_cases hlt:i < ls.length
 rotate_left
 ·have hil:i=ls.length:=by omega
  subst hil;rw[List.drop_length]at ql;obtain⟨rfl,rfl⟩:ns=nsF/\dI tr=hsF:=by
   have:=Sum.inr.inj (show Fs (ns,dI tr)=Fs (nsF,hsF)from ql);exact⟨congrArg Prod.fst this,congrArg Prod.snd this⟩
  refine .inl ⟨⟨_,lsAt N,by rw[Ab]⟩,?_⟩;have Rb:=((relB (σ':=[ae (.ref al),ae (.ref aN),ae (.ref aH),t3,t4,t5,t6]) N rfl).set (i:=1) (v:=.ref aN) (x:=.d (.list ns)) (T.dataN hB) rfl).set (i:=2) (v:=.ref aH) (x:=.d (jv (dI tr))) (T.dataH hB) rfl;refine hs C H' B _ _ n Kd D Rb (ZK (x0:=af) (x3:=af) (x4:=af) (x5:=af) (x6:=af) (λbs hb=>?_) hlk hpl hwf hrw q) Eo;obtain⟨h,hh,rfl⟩:=Bi.mp hb;rw[Ab];exact A4 (T.sz.2.2 h hh).1 ∎
 obtain⟨text,htx⟩:∃x,ls[i]?=ae x:=⟨ls[i],Ar hlt⟩;have htl:text.length<=500:=hx text (D4 htx);rw[UU htx,A3]at ql;have htv:(ls.map V.str)[i]?=ae (.str text):=by rw[Bh,htx];rfl
 refine .inr ⟨⟨_,_,lsAt N,htv⟩,λσ3 H3=>Iv (i+1) σ3 H3,λσ3 H3 z=>⟨ls.length-(i+1),by omega,rfl,hlt,z⟩,λx H3 hy=>?_⟩;obtain⟨ya,x1,rfl,hya,rfl,hx1⟩:=hy;have hx1:=hx1 _ (lsAt N);rw[htv]at hx1;cases hx1;have N3:Nv C H n (upd H' ya (.tup [.int i,.str text])):=N.new R.tp hya;have T3:=T.out (Kp.new (t:=C.t) (o:=.tup [.int i,.str text]) hya) R.bt tH;refine⟨ya,_,rfl,SqT.of bL,rfl,_,_,rfl,_,_,rfl,rfl,?_⟩;generalize upd H' ya (.tup [.int i,.str text])=H3 at N3 T3 ⊢;refine⟨.str text,rfl,rfl,text," ",rfl,rfl,by decide,A4 (show text.length+2<=502 by omega) ∎,λwl hwl=>?_⟩;have hbl:(" ":Str)=fI:=rfl;rw[hbl];have hpos:=PyProof.Rows.split_pos text fI;have hle:=PyProof.Rows.split_le text fI;have hsh:∀w∈D1 text fI,w.length<=500:=λw hw=>A4 (PyProof.Rows.part_short hw) htl;generalize D1 text fI=words at ql hpos hle hsh ⊢;obtain⟨h,r,rfl⟩:∃h r,words=h::r:=by
  cases words with
  |nil=>simp at hpos
  |cons h r=>exact⟨h,r,rfl⟩
 rw[Am]at hle;have N4:Nv C H n (upd H3 wl (.lst (Ea V.str (h::r)))):=N3.new R.tp hwl;have T4:=T3.out (Kp.new (o:=.lst (Ea V.str (h::r))) hwl) R.bt tH;have wlB:¬B wl:=λz=>hB wl z (N3.fresh hwl);have wlK:wl∉keys (bb aN aH xN tr):=T3.hol.nkey hwl;have wlt:wl≠C.t:=λz=>wlB (z▸R.bt);have hw0:∀{H':Hp}{Q:VK},H' wl=ae (.lst (Ea V.str (h::r)))->Q (.str h) H'->jD K (.ref wl) (.int 0) H' Q:=λe k=>.inl ⟨wl,_,0,.str h,rfl,rfl,SqL.of e,oX _ _,k⟩
 refine⟨.ref wl,rfl,hw0 bL ⟨.ref aN,rfl,.ref aH,rfl,C.t,C.l,C.ns,B,[.d (.str h),.d (.list ns),.d (jv (dI tr))],n,λx n'=>x=.d (.bool (bV h ns (dI tr)))/\n'=n,N4.tp,R.bt,(relB (σ':=[af,af,af,af,af,af,af]) N4 rfl).ba,?_,⟨h,ns,dI tr,rfl,rfl,rfl⟩,?_⟩⟩
 ·exact .cons (show RdX _ B _ (.str h)from .str h (A4 (hsh h Ae) ∎)) (.cons (show RdX _ B _ (.list ns)from T4.dataN hB) (.cons (show RdX _ B _ (jv (dI tr))from T4.dataH hB) .nil))
 rintro w n' ⟨rfl,rfl⟩ v H5 tp5 k5 rv
 cases(show RdX H5 B v (.bool (bV h ns (dI tr)))from rv);have N5:=N4.out tp5 k5;have T5:=T4.out k5 R.bt tH;refine⟨bV h ns (dI tr),rfl,?_⟩;unfold gH yN at ql;dsimp only at ql;cases hc:bV h ns (dI tr)with
 |false=>
  rw[if_neg (by rw[hc];decide)]at ql;cases ql
 |true=>
  rw[if_pos hc]at ql;obtain⟨hw,hw1,rfl⟩:=U3 hc;rw[hw1]at ql;dsimp only at ql;cases hd:iw hw r with
  |inl m=>rw[hd]at ql;cases ql
  |inr d=>
  rw[hd]at ql;show if (!ah)=ah then _ else _
  rw[if_neg ∎];have hw5:H5 wl=ae (.lst (Ea V.str (hw.s::r))):=k5 wl _ bL wlt;have rw5:RdX H5 (BT B (bb aN aH xN tr)) (.ref wl) (fU hw r):=.lst hw5 (λz=>z.elim wlB wlK) (by rw[Ab,Am];exact A4 (show r.length+1<=502 by omega) ∎) (BR λy hy=>A4 (hsh y hy) ∎);have ba5:∀b,BT B (bb aN aH xN tr) b->H5 b≠af:=λb z=>by
   rcases z with z|z
   ·exact(relB (σ':=[af,af,af,af,af,af,af]) N5 rfl).ba b z
   ·obtain⟨p,hp,rfl⟩:=Bi.mp z;rw[T5.hol p hp];exact λz=>nomatch z
  refine⟨.ref wl,rfl,hw0 hw5 ⟨.int (i:Int),rfl,.ref wl,rfl,C.t,C.l,C.ns,BT B (bb aN aH xN tr),[.d (.int (i:Int)),.d (fU hw r)],n',λx n1=>x=.d d/\n1=n',N5.tp,.inl R.bt,ba5,?_,⟨_,hw,r,d,rfl,by omega,hd,rfl,rfl⟩,?_⟩⟩
  ·exact .cons (show RdX H5 _ _ (.int _)from .int _) (.cons (show RdX H5 _ _ (fU hw r)from rw5) .nil)
  ·rintro x n1 ⟨rfl,rfl⟩ v H6 tp6 k6 rq
   have rv6:RdX H6 (BT B (bb aN aH xN tr)) v d:=rq;have N6:=N5.out tp6 k6;have T6:=T5.out k6 R.bt tH;have f6:∀x,H6 x=af->H x=af:=λx hx=>N6.fresh hx;refine⟨.ref aN,rfl,.ref aH,rfl,hw,v,aN,aH,rfl,?_⟩;have act:3<=hw.no->lC hw v aN aH H6 (λH'=>Iv (i+1) [ae (.ref al),ae (.ref aN),ae (.ref aH),ae (.int (i:Int)),ae (.str text),ae (.ref wl),t6] H'):=λh3=>by
    obtain⟨bs,b,hb1,hb2,hb3⟩:=VQ hc h3;obtain⟨hs0,ehs⟩:=yX hb1;obtain⟨bs0,rfl⟩:=yX hb2;obtain⟨tr0,hl0,rfl⟩:∃tr0 hl0,tr=tr0++[hl0]:=by
     rcases List.eq_nil_or_concat tr with z|⟨a,b,z⟩
     ·rw[z]at ehs;have:=congrArg E8 ehs;simp[dI]at this
     ·exact⟨a,b,by rw[z,List.concat_eq_append]⟩
    rw[lq]at ehs;obtain⟨rfl,ehl⟩:=List.append_inj' ehs rfl;have ehl:=(Cr ehl).1;obtain⟨la,lb⟩:=hl0;dsimp only at ehl;obtain⟨lb0,nb,rfl⟩:∃lb0 nb,lb=lb0++[nb]:=by
     rcases List.eq_nil_or_concat lb with z|⟨a,b,z⟩
     ·rw[z]at ehl;have:=congrArg E8 ehl;simp at this
     ·exact⟨a,b,by rw[z,List.concat_eq_append]⟩
    rw[Bc,List.map_singleton]at ehl;obtain⟨rfl,ehb⟩:=List.append_inj' ehl rfl;have ehb:=(Cr ehb).1;subst ehb;have hm:(la,lb0++[nb])∈tr0++[(la,lb0++[nb])]:=Az _ Ae;have hm2:nb∈(la,lb0++[nb]).2:=Az _ Ae;have hlen:nb.as.length < A6:=by
     have:=(T6.rB _ hm nb hm2).2.len;exact Fg (show nb.as.length<=8 by rw[this];exact Gn hb3) ∎
    have T7:=T6.newAct rv6 hb3;have hka:nb.ac∈keys (bb aN aH xN (tr0++[(la,lb0++[nb])])):=Af _ (Af _ (Bi.mpr ⟨(nb.ac,.lst nb.as),Cg.mpr ⟨_,hm,Af _ (Cg.mpr ⟨nb,hm2,Af _ Ae⟩)⟩,rfl⟩));have fin:Iv (i+1) [ae (.ref al),ae (.ref aN),ae (.ref aH),ae (.int (i:Int)),ae (.str text),ae (.ref wl),t6] (upd H6 nb.ac (.lst (nb.as++[v]))):=by
     refine⟨xN,ns,_,_,_,_,_,rfl,T7,N6.upd R.tp (T6.fr _ hka),?_⟩
     ·have e:fv hw d ns (dI (tr0++[(la,lb0++[nb])]))=(ns,dI (tr0++[(la,lb0++[{ nb with as:=nb.as++[v],ds:=nb.ds++[d]}])])):=by
       rw[lq,lq];cases hw<;>first|exact absurd h3 ∎|(simp[fv])
      dsimp only at ql;rw[e]at ql;exact ql
    have res:∃hs a bs tp wv ac as,H6 aH=ae (.lst hs)/\hs.getLast?=ae (.ref a)/\H6 a=ae (.lst bs)/\bs.getLast?=ae (.ref tp)/\H6 tp=ae (.tup [wv,.ref ac])/\H6 ac=ae (.lst as)/\as.length < A6/\Iv (i+1) [ae (.ref al),ae (.ref aN),ae (.ref aH),ae (.int (i:Int)),ae (.str text),ae (.ref wl),t6] (upd H6 ac (.lst (as++[v]))):=
     ⟨_,la,_,nb.tp,nb.wv,nb.ac,nb.as,T6.hands,by rw[Bc];simp,T6.hand hm,by show(Ea _ (lb0++[nb])).getLast?=_;rw[Bc];simp,(T6.blk hm hm2).1,(T6.blk hm hm2).2,hlen,fin⟩
    cases hw<;>first|exact absurd h3 ∎|exact res
   cases hw with
   |note=>
    have c:(dI tr).isEmpty=ah/\ns.length < 12:=by
     have hc':((dI tr).isEmpty&&decide (ns.length < 12))=ah:=hc;rw[Ak]at hc';exact⟨hc'.1,of_decide_eq_true hc'.2⟩
    have hkn:aN∈keys (bb aN aH xN tr):=Ae;refine⟨xN,T6.notes,Fg (show xN.length<=12 by rw[T6.rN.len];omega) ∎,?_⟩;exact⟨xN++[v],ns++[d],tr,_,_,_,_,rfl,T6.note rv6 c.2,N6.upd R.tp (T6.fr _ hkn),ql⟩
   |hand=>
    have c:tr.length < 5:=by
     have hc':(!hZ (dI tr)&&decide ((dI tr).length < 5))=ah:=hc;rw[Ak]at hc';have:=of_decide_eq_true hc'.2;unfold dI at this;rw[Ab]at this;exact this
    have hkh:aH∈keys (bb aN aH xN tr):=Af _ Ae;refine⟨_,T6.hands,by rw[Ab];exact By c ∎,λp hp=>?_⟩;have eL:HO.lst (Ea (λh:HN=>V.ref h.1) tr++[.ref p])=eT (tr++[(p,[])]):=by unfold eT;rw[Bc];rfl
    rw[eL];refine⟨xN,ns,tr++[(p,[])],_,_,_,_,rfl,T6.newHand hp f6 c,(N6.new R.tp hp).upd R.tp (T6.fr _ hkh),?_⟩
    ·rw[lq];exact ql
   |block=>
    obtain⟨bs,hb1,hb2⟩:∃bs,(dI tr).getLast?=ae bs/\bs.length < 6:=by
     have hc':(match (dI tr).getLast? with|some bs=>decide (bs.length < 6)|none=>ai)=ah:=hc;cases e:(dI tr).getLast? with
     |none=>rw[e]at hc';cases hc'
     |some bs=>rw[e]at hc';exact⟨bs,rfl,of_decide_eq_true hc'⟩
    obtain⟨hs0,ehs⟩:=yX hb1;obtain⟨tr0,hl0,rfl⟩:∃tr0 hl0,tr=tr0++[hl0]:=by
     rcases List.eq_nil_or_concat tr with z|⟨a,b,z⟩
     ·rw[z]at ehs;have:=congrArg E8 ehs;simp[dI]at this
     ·exact⟨a,b,by rw[z,List.concat_eq_append]⟩
    rw[lq]at ehs;obtain⟨rfl,ehl⟩:=List.append_inj' ehs rfl;have ehl:=(Cr ehl).1;obtain⟨la,lb⟩:=hl0;dsimp only at ehl;subst ehl;rw[Ab]at hb2;have hm:(la,lb)∈tr0++[(la,lb)]:=Az _ Ae;have hka:la∈keys (bb aN aH xN (tr0++[(la,lb)])):=Af _ (Af _ (Bi.mpr ⟨(la,f7 (la,lb)),Cg.mpr ⟨_,hm,Ae⟩,rfl⟩));refine⟨_,la,_,T6.hands,by rw[Bc];simp,T6.hand hm,by rw[Ab];exact By hb2 ∎,λp p2 hp hp2=>?_⟩;have eL:HO.lst (Ea (λb:BN=>V.ref b.tp) (la,lb).2++[.ref p2])=f7 (la,lb++[⟨p2,v,p,[],d,[]⟩]):=by unfold f7;show _=HO.lst (Ea _ (lb++[_]));rw[Bc];rfl
    rw[eL];have hp2':H6 p2=af:=by
     by_cases z:p2=p
     ·rw[z,bL]at hp2;cases hp2
     ·rw[bc z]at hp2;exact hp2
    refine⟨xN,ns,_,_,_,_,_,rfl,T6.newBlock rv6 hp hp2 f6 hb2,((N6.new R.tp hp).new R.tp hp2).upd R.tp (T6.fr _ hka),?_⟩
    ·have e:fv .block d ns (dI (tr0++[(la,lb)]))=(ns,dI (tr0++[(la,lb++[⟨p2,v,p,[],d,[]⟩])])):=by
      rw[lq,lq];simp[fv]
     dsimp only at ql;rw[e]at ql;exact ql
   |_=>exact act ∎
def d7(c:Nat):List Nat->List (List Nat)
 |[]=>[[]]
 |a::r=>if a=c then[]::d7 c r else match d7 c r with
  |h::t=>(a::h)::t
  |[]=>[[a]]
theorem CA:∀{l:List Nat},c∉l->d7 c l=[l]
 |[],_=>rfl
 |a::r,h=>by
  have h1:a≠c:=λz=>h (z▸Ae);rw[d7,if_neg h1,CA λz=>h (Af _ z)]
theorem GO:∀{l:List Nat},c∉l->d7 c (l++c::m)=l::d7 c m
 |[],_=>by rw[Bz,d7,if_pos rfl]
 |a::r,h=>by
  have h1:a≠c:=λz=>h (z▸Ae);rw[List.cons_append,d7,if_neg h1,GO λz=>h (Af _ z)]
theorem zA(c):∀(ws:List Str),ws≠[]->(∀w∈ws,c∉w.cps.toList)->d7 c (Str.join ⟨#[c]⟩ ws).cps.toList=ws.map λw=>w.cps.toList
 |[],h,_=>absurd rfl h
 |[w],_,h=>by
  show d7 c w.cps.toList=[w.cps.toList];exact CA (h w Ae)
 |w::v::r,_,h=>by
  have ih:=zA c (v::r) (λz=>nomatch z) λx hx=>h x (Af _ hx);show d7 c (w++(⟨#[c]⟩:Str)++Str.join ⟨#[c]⟩ (v::r)).cps.toList=_;rw[Str.cps_append,Str.cps_append,Array.toList_append,Array.toList_append,A9];show d7 c (w.cps.toList++c::(Str.join ⟨#[c]⟩ (v::r)).cps.toList)=_;rw[GO (h w Ae),ih];rfl
theorem RM(x:Str):D1 x fI=(d7 32 x.cps.toList).map λl=>⟨l.toArray⟩:=by
 have hb:fI=⟨#[32]⟩:=by decide +kernel
 rw[hb];have h1:=StrLaws.join_split x ⟨#[32]⟩;have h2:=StrLaws.split_free x 32;have h3:D1 x ⟨#[32]⟩≠[]:=λz=>by
  have:=PyProof.Rows.split_pos x ⟨#[32]⟩;rw[z]at this;exact absurd this ∎
 have:=zA 32 _ h3 h2;rw[h1]at this;rw[this,Ck];exact(Fy _).symm
theorem mw(h:Bw a=ah)(h':Bw b=ah):Bw (a++b)=ah:=by
 unfold Bw at *;rw[Str.cps_append,Array.all_append,h,h'];rfl
theorem wL:∀k,k < 200->32∉(sK k).cps.toList:=by decide +kernel
theorem wX:∀k,k < 100->gW (sK k).cps.toList=ae k:=by decide +kernel
theorem W5:∀k,k < 200->aO 8 (.str (sK k))=ai:=by decide +kernel
theorem Wq:∀k,k < 200->((sK k).cps.toList.head?.any λc=>decide (48<=c)&&decide (c<=57))=ah:=by decide +kernel
theorem xB:∀k,k < 200->Bw (sK k)=ah/\(sK k).length<=3:=by decide +kernel
theorem LJ:¬(("bind":Str)="is"):=by decide +kernel
theorem WJ:¬(("bind":Str)="as"):=by decide +kernel
theorem QE:¬(("as":Str)="is"):=by decide +kernel
theorem Oh(h:aO 4 (.str n)=ah):dJ (.tuple [.str "bind",.str n])=ah:=by
 simp[dJ,cv,jo,bQ,b7,gR,h,LJ,WJ]
theorem zf(h:aO 4 (.str n)=ah):cv (.tuple [.str "as",.str n])=ah:=by
 simp[cv,jo,bQ,b7,gR,h,QE]
theorem SD(h:aO 4 (.str n)=ah):eR (.tuple [.str "as",.str n])=ah:=by
 unfold eR;rw[zf h];rfl
theorem BI(h:ck d=ah):cv (.tuple [.str "is",d])=ah:=by
 simp[cv,bQ,b7,gR,h]
theorem Pz(h:ck d=ah):dJ (.tuple [.str "is",d])=ah:=by
 unfold dJ;rw[BI h];simp
section
variable{x a n:Str}
theorem BK(h:k < 100):cx (sK k)=.int (k:Nat):=by
 unfold cx fk;rw[if_neg (by rw[W5 k ⋯];decide),wX k h];rfl
theorem UP(h1:aO 8 (.str x)=ai)(h2:gW x.cps.toList=af):cx x=.none:=by
 unfold cx fk;rw[if_neg (by rw[h1];decide),h2];rfl
theorem CK(x:Str):x.cps.toList.length=x.length:=C5
theorem zw(x y:Str):(x++y).length=x.length+y.length:=Str.length_append x y
theorem mS(hs:s.cps.toList=[c]):(s++x).cps.toList=c::x.cps.toList:=by rw[Str.cps_append,Array.toList_append,hs];rfl
theorem oh(hs:s.cps.toList=[c]):eE (s++x)=x:=by
 unfold eE;rw[mS hs];rfl
theorem kP(hs:s.cps.toList=[c]):fO d (s++x)=decide (c=d):=by
 unfold fO;rw[mS hs]
theorem mj:("?":Str).cps.toList=[63]:=by decide +kernel
theorem ui:("=":Str).cps.toList=[61]:=by decide +kernel
theorem pQ:("@":Str).cps.toList=[64]:=by decide +kernel
theorem rR:(">":Str).cps.toList=[62]:=by decide +kernel
theorem jQ(hy:y.cps.toList=[c])(h:x.length≠1):¬x=y:=λz=>h (by rw[<-CK,z,hy];rfl)
theorem wW(h:aO k (.str n)=ah):1<=n.length:=by
 have h:(decide ((1:Int)<=(n.length:Int))&&(decide ((n.length:Int)<=k)&&n.cps.toList.all ie))=ah:=h;rw[Ak]at h;have:=of_decide_eq_true h.1;omega
theorem Vx(h:aO 4 (.str n)=ah):d9 (("?":Str)++n)=.tuple [.str "bind",.str n]:=by
 have e1:("?":Str).length=1:=by decide +kernel
 have e2:=wW h;have e:(("?":Str)++n).length≠1:=by rw[zw,e1];omega
 unfold d9;rw[if_neg (jQ mj e),if_neg (jQ (c:=36) ∅ e),if_neg (jQ (c:=35) ∅ e),kP mj,oh mj,h,if_pos ∎]
theorem Up(h:aO 4 (.str n)=ah):d9 (("=":Str)++n)=.tuple [.str "as",.str n]:=by
 have e1:("=":Str).length=1:=by decide +kernel
 have e2:=wW h;have e:(("=":Str)++n).length≠1:=by rw[zw,e1];omega
 unfold d9;rw[if_neg (jQ mj e),if_neg (jQ (c:=36) ∅ e),if_neg (jQ (c:=35) ∅ e),kP ui,kP ui,oh ui,h,if_neg ∎,if_pos ∎]
theorem vY(hx:x.cps.toList=c::r)(h1:c≠63)(h2:c≠36)(h3:c≠35)(h4:c≠61)(h5:c≠43):d9 x=uQ (cx x):=by
 have ne:∀(y:Str)(d:Nat),y.cps.toList=[d]->c≠d->¬x=y:=λy d hy hc z=>hc (by rw[z,hy]at hx;exact(Cr hx).1.symm);have st:∀d,c≠d->fO d x=ai:=λd hd=>by unfold fO;rw[hx];exact decide_eq_false hd
 unfold d9;rw[if_neg (ne _ _ mj h1),if_neg (ne _ 36 ∅ h2),if_neg (ne _ 35 ∅ h3),st _ h1,st _ h4,st _ h5,E2,if_neg Al,if_neg Al,if_neg Al]
theorem Oe(h:k < 100):d9 (sK k)=.tuple [.str "is",.int (k:Nat)]:=by
 have hd:=Wq k ⋯;cases e:(sK k).cps.toList with
 |nil=>rw[e]at hd;cases hd
 |cons c r=>
  rw[e]at hd;have hd:(decide (48<=c)&&decide (c<=57))=ah:=hd;rw[Ak]at hd;have g1:=of_decide_eq_true hd.1;have g2:=of_decide_eq_true hd.2;rw[vY e ⋯ ⋯ ⋯ ⋯ ⋯,BK h];rfl
theorem Wl(h1:1<=k)(h:k<=20):hU (("@":Str)++sK k)=.int (k:Nat):=by
 have g:cj (.int (k:Nat))=ah:=by
  show(ai || (decide ((1:Int)<=(k:Int))&&decide ((k:Int)<=20)))=ah;rw[decide_eq_true (show(1:Int)<=(k:Int) by omega),decide_eq_true (show(k:Int)<=20 by omega)];rfl
 unfold hU fk;rw[kP pQ,oh pQ,wX k ⋯,if_pos ∎];show(if cj (.int (k:Nat))=ah then PyData.int (k:Nat)else .none)=_;rw[if_pos g]
theorem vy(h:k < 100):m8 ((">":Str)++sK k)=.int (k:Nat):=by
 unfold m8 fk;rw[kP rR,oh rR,if_pos ∎,wX k h];rfl
end
section
variable{h:Hw}{r:List Str}{ps acc:List Aa}{t d:Aa}{w:Str}{m:Nat}
theorem jy(hp:dB h [] r=ps)(ht:i7 h r ps.length=t)(h1:h.least<=ps.length)(h2:(h.leads&&dU t)=ai)(h3:r.length<=ps.length+(if dU t=ah then 0 else 1)):iw h r=.inr (zy h ps t):=by
 subst hp;subst ht;unfold iw;dsimp only;rw[if_neg]
 rintro(z|z)
 ·rw[h2,decide_eq_false (Nat.not_lt.mpr h1)]at z;cases z
 ·omega
theorem rX(hw:fg h w=d)(hb:eF h (acc++[d])=ah)(k:dB h (acc++[d]) r=x):dB h acc (w::r)=x:=by rw[dB,hw,if_pos hb];exact k
theorem qR(hw:fg h w=d)(hb:eF h (acc++[d])=ai):dB h acc (w::r)=acc:=by rw[dB,hw,if_neg (by rw[hb];decide)]
theorem oU(e:m=r.length):i7 h r m=.none:=by unfold i7;rw[if_pos (.inr e)]
theorem DZ(h1:h.least<=m)(h2:m≠r.length)(e:r[m]?=ae w)(ha:h.aged=ah)(hw:hU w=d):i7 h r m=d:=by
 unfold i7;rw[if_neg (by rintro(z|z)<;>omega),e];dsimp only;rw[if_pos ha,hw]
theorem yg(h1:h.least<=m)(h2:m≠r.length)(e:r[m]?=ae w)(ha:h.aged=ai)(hl:h.leads=ah)(hw:m8 w=d):i7 h r m=d:=by
 unfold i7;rw[if_neg (by rintro(z|z)<;>omega),e];dsimp only;rw[if_neg (by rw[ha];decide),if_pos hl,hw]
end
section
variable{a n:Str}{k m:Nat}
theorem ML(h1:ds.length<=4)(h0:1<=ds.length)(h:∀d∈ds,ck d=ah):eB (.tuple ds)=ah:=by
 show(decide ((1:Int)<=(ds.length:Int))&&(decide ((ds.length:Int)<=4)&&ds.all ck))=ah;rw[decide_eq_true ⋯,decide_eq_true ⋯,Be.mpr h];rfl
theorem NQ(h:(∃d∈ds,ck d=ai)\/4 < ds.length):eB (.tuple ds)=ai:=by
 show(decide ((1:Int)<=(ds.length:Int))&&(decide ((ds.length:Int)<=4)&&ds.all ck))=ai;rcases h with⟨d,hd,e⟩|h
 ·rw[show ds.all ck=ai from List.all_eq_false.mpr ⟨d,hd,by rw[e];decide⟩];simp
 ·rw[decide_eq_false (show ¬(ds.length:Int)<=4 by omega)];simp
theorem XD(h1:ds.length<=4)(h0:1<=ds.length)(h:∀d∈ds,dJ d=ah):bY (.tuple ds)=ah:=by
 show((decide ((1:Int)<=(ds.length:Int))&&decide ((ds.length:Int)<=4))&&ds.all dJ)=ah;rw[decide_eq_true ⋯,decide_eq_true ⋯,Be.mpr h];rfl
theorem Q5(h:(∃d∈ds,dJ d=ai)\/4 < ds.length):bY (.tuple ds)=ai:=by
 show((decide ((1:Int)<=(ds.length:Int))&&decide ((ds.length:Int)<=4))&&ds.all dJ)=ai;rcases h with⟨d,hd,e⟩|h
 ·rw[show ds.all dJ=ai from List.all_eq_false.mpr ⟨d,hd,by rw[e];decide⟩];simp
 ·rw[decide_eq_false (show ¬(ds.length:Int)<=4 by omega)];simp
theorem Ms(h1:ds.length<=4)(h0:1<=ds.length)(h:∀d∈ds,eR d=ah):ek (.tuple ds)=ah:=by
 show((decide ((1:Int)<=(ds.length:Int))&&decide ((ds.length:Int)<=4))&&ds.all eR)=ah;rw[decide_eq_true ⋯,decide_eq_true ⋯,Be.mpr h];rfl
theorem Po{p:Aa->Bool}:∀d∈([]:List Aa),p d=ah:=λd hd=>absurd hd Av
theorem AU{p:Aa->Bool}(h:∀d∈ds,p d=ah)(hd:p d=ah):∀x∈ds++[d],p x=ah:=λx hx=>(Ax.mp hx).elim (h x) λz=>by rw[Au.mp z];exact hd
theorem v0:cx "0"=.int (0:Nat):=by rw[show("0":Str)=sK 0 by decide +kernel];exact BK (by first|rfl|exact Cn rfl|exact Eg rfl|decide)
theorem Oo:iw .hand []=.inr (.tuple []):=rfl
theorem Ve(h:fF (.tuple ds)=ah):eF .block ds=ah:=h
theorem SE:dB .go [] (x::r)=[]:=qR (h:=.go) (acc:=[]) rfl rfl
theorem Rf(hk:k < 100):iw .go [">"++sK k]=.inr (.tuple [.str "go",.int (k:Nat)]):=
 jy (h:=.go) (r:=[">"++sK k]) (ps:=[]) (t:=.int (k:Nat)) SE (yg (h:=.go) (by first|rfl|exact Cn rfl|exact Eg rfl|decide) (by first|rfl|exact Cn rfl|exact Eg rfl|decide) rfl rfl rfl (vy hk)) (by first|rfl|exact Cn rfl|exact Eg rfl|decide) rfl (by first|rfl|exact Cn rfl|exact Eg rfl|decide)
theorem fW:d9 "$"=.tuple [.str "word"]:=by unfold d9;rw[if_neg ∅,if_pos rfl]
theorem fN:d9 "#"=.tuple [.str "number"]:=by unfold d9;rw[if_neg ∅,if_neg ∅,if_pos rfl]
theorem fA:d9 "?"=.tuple [.str "any"]:=by unfold d9;grind
end
section
variable{hw:Hw}{h:Str}{r:List Str}{rest:List (List Str)}{i m:Nat}{ns ns':List Aa}{hs hs':Hs}{d:Aa}{x:(Nat×Nat) ⊕ (List Aa×Hs)}
theorem zB(hw:Hw):km hw.s=ae hw:=by cases hw<;>rfl
theorem kf(hw:Hw)(hc:bV hw.s ns hs=ah)(hl:iw hw r=.inr d)(hp:fv hw d ns hs=(ns',hs'))(k:gH (i+1) rest ns' hs'=x):gH i ((hw.s::r)::rest) ns hs=x:=by
 unfold gH yN;dsimp only;rw[if_pos hc,zB];dsimp only;rw[hl];dsimp only;rw[hp];exact k
theorem nh:¬(Hw.hand.s="note"):=by decide +kernel
theorem Uv:¬(Hw.block.s="note"):=by decide +kernel
theorem Rc:¬(Hw.block.s="hand"):=by decide +kernel
theorem M9(h:ns.length < 12):bV Hw.note.s ns []=ah:=by
 unfold bV;rw[if_pos (show Hw.note.s="note" from rfl),decide_eq_true h];rfl
theorem NX(h:hZ hs=ai)(h5:hs.length < 5):bV Hw.hand.s ns hs=ah:=by
 unfold bV;rw[if_neg nh,if_pos (show Hw.hand.s="hand" from rfl),h,decide_eq_true h5];rfl
theorem PN(h:hs.getLast?=ae bs)(hb:bs.length < 6):bV Hw.block.s ns hs=ah:=by
 unfold bV;rw[if_neg Uv,if_neg Rc,if_pos (show Hw.block.s="block" from rfl),h];exact decide_eq_true hb
theorem il(h1:¬h="note")(h2:¬h="hand")(h3:¬h="block")(h4:bG (.str h) ((Za:List Str).map .str)=ah)(e:hs.getLast?=ae bs)(e2:bs.getLast?=ae b):bV h ns hs=decide (b.2.length < 8):=by
 unfold bV;rw[if_neg h1,if_neg h2,if_neg h3,if_pos h4,e];dsimp only;rw[e2]
theorem vV(e:hs.getLast?=ae bs)(e2:bs.getLast?=ae b)(hb:b.2.length < 8):bV Hw.go.s ns hs=ah:=by
 rw[il ∅ ∅ ∅ ∅ e e2];exact decide_eq_true hb
theorem QH(e:hs.getLast?=ae bs)(e2:bs.getLast?=ae b)(hb:b.2.length < 8):bV Hw.take.s ns hs=ah:=by
 rw[il ∅ ∅ ∅ ∅ e e2];exact decide_eq_true hb
theorem O4(e:hs.getLast?=ae bs)(e2:bs.getLast?=ae b)(hb:b.2.length < 8):bV Hw.lay.s ns hs=ah:=by
 rw[il ∅ ∅ ∅ ∅ e e2];exact decide_eq_true hb
theorem SU(e:hs.getLast?=ae bs)(e2:bs.getLast?=ae b)(hb:b.2.length < 8):bV Hw.look.s ns hs=ah:=by
 rw[il ∅ ∅ ∅ ∅ e e2];exact decide_eq_true hb
theorem YT(e:hs.getLast?=ae bs)(e2:bs.getLast?=ae b)(hb:b.2.length < 8):bV Hw.same.s ns hs=ah:=by
 rw[il ∅ ∅ ∅ ∅ e e2];exact decide_eq_true hb
end
theorem l6(h:ck d=ah):(∃x,d=.str x/\aO 8 (.str x)=ah)\/∃k:Nat,d=.int (k:Nat)/\k < 100:=by
 unfold ck at h;cases d with
 |str x=>
  refine .inl ⟨x,rfl,?_⟩;rw[Gy]at h;rcases h with h|h
  ·exact h
  ·cases h
 |int i=>
  refine .inr ⟨i.toNat,?_,?_⟩
  ·have h:(decide ((0:Int)<=i)&&decide (i<=99))=ah:=by
    rw[Gy]at h;rcases h with h|h
    ·cases h
    ·exact h
   rw[Ak]at h;have:=of_decide_eq_true h.1;rw[Int.toNat_of_nonneg this]
  ·have h:(decide ((0:Int)<=i)&&decide (i<=99))=ah:=by
    rw[Gy]at h;rcases h with h|h
    ·cases h
    ·exact h
   rw[Ak]at h;have h1:=of_decide_eq_true h.1;have h2:=of_decide_eq_true h.2;omega
 |_=>cases h
theorem wK(h:ck d=ah):cx (b6 d)=d:=by
 rcases l6 h with⟨x,rfl,hx⟩|⟨k,rfl,hk⟩
 ·show cx x=_;unfold cx;rw[if_pos hx]
 ·exact BK hk
theorem MM(h:aO m (.str x)=ah):∃c r,x.cps.toList=c::r/\ie c=ah:=by
 have h:(decide ((1:Int)<=(x.length:Int))&&(decide ((x.length:Int)<=m)&&x.cps.toList.all ie))=ah:=h;rw[Ak,Ak]at h;cases e:x.cps.toList with
 |nil=>
  have:=of_decide_eq_true h.1;rw[<-CK,e]at this;simp at this
 |cons c r=>
  refine⟨c,r,rfl,Be.mp h.2.2 c ?_⟩;rw[e];exact Ae
theorem CQ(h:ie c=ah):c≠63/\c≠36/\c≠35/\c≠61/\c≠43/\c≠64/\c≠62/\c≠32:=by
 refine⟨?_,?_,?_,?_,?_,?_,?_,?_⟩<;>(intro e;subst e;revert h;decide +kernel)
theorem XB(h:ck d=ah):d9 (b6 d)=.tuple [.str "is",d]:=by
 rcases l6 h with⟨x,rfl,hx⟩|⟨k,rfl,hk⟩
 ·obtain⟨c,r,e,hc⟩:=MM hx;have ne:=CQ hc;show d9 x=_;rw[vY e ne.1 ne.2.1 ne.2.2.1 ne.2.2.2.1 ne.2.2.2.2.1];have:=wK h;have this:cx x=.str x:=this;rw[this];rfl
 ·exact Oe hk
theorem qQ:("+":Str).cps.toList=[43]:=by decide +kernel
theorem QD(h:aO 4 (.str n)=ah):d9 (("+":Str)++n)=.tuple [.str "next",.str n]:=by
 have e1:("+":Str).length=1:=by decide +kernel
 have e2:=wW h;have e:(("+":Str)++n).length≠1:=by rw[zw,e1];omega
 unfold d9;rw[if_neg (jQ mj e),if_neg (jQ (c:=36) ∅ e),if_neg (jQ (c:=35) ∅ e),kP qQ,kP qQ,kP qQ,oh qQ,h,if_neg ∎,if_neg ∎,if_pos ∎]
theorem px{f:Fe}(h:f.ok):d9 f.wd=f.d:=by
 cases f with
 |any=>exact fA
 |word=>exact fW
 |num=>exact fN
 |isv d=>
  have h:(ck d&&fV 60 0 d)=ah:=h;rw[Ak]at h;exact XB h.1
 |bind k=>exact Vx h.1
 |as k=>exact Up h.1
 |nx k=>exact QD h.1
theorem qM(h:aO m (.str x)=ah):32∉x.cps.toList:=λz=>by
 have h:(decide ((1:Int)<=(x.length:Int))&&(decide ((x.length:Int)<=m)&&x.cps.toList.all ie))=ah:=h;rw[Ak,Ak]at h;exact(CQ (Be.mp h.2.2 32 z)).2.2.2.2.2.2.2 rfl
theorem Kv(h:ck d=ah):32∉(b6 d).cps.toList:=by
 rcases l6 h with⟨x,rfl,hx⟩|⟨k,rfl,hk⟩
 ·exact qM hx
 ·exact wL k ⋯
theorem qN{s n:Str}(hs:s.cps.toList=[c])(hc:c≠32)(h:32∉n.cps.toList):32∉(s++n).cps.toList:=by
 rw[mS hs];intro z;rcases Aq.mp z with e|e
 ·exact hc e.symm
 ·exact h e
theorem vt{f:Fe}(h:f.ok):32∉f.wd.cps.toList:=by
 cases f with
 |any=>exact(show 32∉("?":Str).cps.toList by decide +kernel)
 |word=>exact(show 32∉("$":Str).cps.toList by decide +kernel)
 |num=>exact(show 32∉("#":Str).cps.toList by decide +kernel)
 |isv d=>
  have h:(ck d&&fV 60 0 d)=ah:=h;rw[Ak]at h;exact Kv h.1
 |bind k=>exact qN mj ∎ (qM h.1)
 |as k=>exact qN ui ∎ (qM h.1)
 |nx k=>exact qN qQ ∎ (qM h.1)
theorem GC(hx:x.cps.toList=c::r)(h1:ie c=ai)(h2:bH c=ai):cx x=.none:=by
 refine UP ?_ ?_
 ·show(_&&(_&&x.cps.toList.all ie))=ai;rw[hx,List.all_cons,h1];simp
 ·rw[hx];rcases r with _|⟨d,_|⟨e,r⟩⟩
  ·show(if bH c=ah then ae (c-48)else af)=af;rw[h2];rfl
  ·show(if (bH c&&bH d&&decide (c≠48))=ah then _ else af)=af;rw[h2];rfl
  ·rfl
theorem Ik(hx:x.cps.toList=c::r)(h1:ie c=ai)(h2:bH c=ai)(n1:c≠63)(n2:c≠36)(n3:c≠35)(n4:c≠61)(n5:c≠43):d9 x=.none:=by
 rw[vY hx n1 n2 n3 n4 n5,GC hx h1 h2];rfl
theorem yD:d9 (("@":Str)++x)=.none:=Ik (mS pQ) ∅ ∅ ∎ ∎ ∎ ∎ ∎
theorem vC:cx (("@":Str)++x)=.none:=GC (mS pQ) ∅ ∅
theorem wI:d9 ((">":Str)++x)=.none:=Ik (mS rR) ∅ ∅ ∎ ∎ ∎ ∎ ∎
theorem qU{p:Aa->Bool}(hb:∀ds:List Aa,1<=ds.length->ds.length<=m->(∀d∈ds,p d=ah)->eF h ds=ah){rest:List Str}:∀(ws:List Str)(acc:List Aa),acc.length+ws.length<=m->(∀d∈acc,p d=ah)->(∀w∈ws,p (fg h w)=ah)->dB h acc (ws++rest)=dB h (acc++ws.map (fg h)) rest
 |[],acc,_,_,_=>by rw[Bo,A5,Bz]
 |w::ws,acc,hl,ha,hw=>by
  rw[Am]at hl;have A:=AU ha (hw w Ae);refine rX (h:=h) (acc:=acc) rfl (hb _ (by rw[Ah,As];omega) (by rw[Ah,As];omega) A) ?_;show dB h (acc++[fg h w]) (ws++rest)=_;rw[qU hb ws (acc++[fg h w]) (by rw[Ah,As];omega) A λx hx=>hw x (Af _ hx),A9];rfl
theorem P0{f:Fe}(h:f.ok)(hp:f.pt=ah):dJ f.d=ah:=by
 cases f with
 |any=>exact(show dJ (.tuple [.str "any"])=ah by decide +kernel)
 |word=>exact(show dJ (.tuple [.str "word"])=ah by decide +kernel)
 |num=>exact(show dJ (.tuple [.str "number"])=ah by decide +kernel)
 |isv d=>
  have h:(ck d&&fV 60 0 d)=ah:=h;rw[Ak]at h;exact Pz h.1
 |bind k=>exact Oh h.1
 |as k=>exact(show dJ (.tuple [.str "as",.str k])=ah by unfold dJ;rw[zf h.1];simp)
 |nx k=>cases hp
theorem Hg{f:Fe}(h:f.ok)(hp:f.te=ah):cv f.d=ah:=by
 cases f with
 |isv d=>
  have h:(ck d&&fV 60 0 d)=ah:=h;rw[Ak]at h;exact BI h.1
 |as k=>exact zf h.1
 |_=>cases hp
theorem Nn:¬(("next":Str)="is"):=by decide +kernel
theorem Pd:¬(("next":Str)="as"):=by decide +kernel
theorem Rz{f:Fe}(h:f.ok)(hp:f.tm=ah):eR f.d=ah:=by
 cases f with
 |isv d=>
  have h:(ck d&&fV 60 0 d)=ah:=h;rw[Ak]at h;show eR (.tuple [.str "is",d])=ah;unfold eR;rw[BI h.1];rfl
 |as k=>exact SD h.1
 |nx k=>
  show eR (.tuple [.str "next",.str k])=ah;simp[eR,cv,jo,bQ,b7,gR,h.1,Nn,Pd]
 |_=>cases hp
theorem DW{fs:List Fe}(hp:∀w,fg h w=d9 w)(ok:∀f∈fs,f.ok):(fs.map Fe.wd).map (fg h)=fs.map Fe.d:=by
 rw[Ck];exact Ey λf hf=>(hp _).trans (px (ok f hf))
theorem xl{α:Type}(l:List α)(x):(l++[x])[l.length]?=ae x:=by simp
theorem DY(h1:1<=i)(h2:i<=20):hU (("@":Str)++Bt (C4 i))=.int i:=by
 obtain⟨k,rfl⟩:∃k:Nat,i=k:=⟨i.toNat,by omega⟩;exact Wl ⋯ ⋯
section
variable{fs:List Fe}
theorem vW(hh:h=.take\/h=.read\/h=.look)(ok:cQ fs)(hp:gM fs){rest:List Str}:dB h [] (fs.map Fe.wd++rest)=dB h (fs.map Fe.d) rest:=by
 have hf:∀w,fg h w=d9 w:=by rcases hh with rfl|rfl|rfl<;>exact λ_=>rfl
 have hb:∀ds:List Aa,1<=ds.length->ds.length<=4->(∀d∈ds,dJ d=ah)->eF h ds=ah:=by
  rcases hh with rfl|rfl|rfl<;>exact λds a b c=>XD b a c
 rw[qU hb (fs.map Fe.wd) [] (by rw[Dc,Ab];have:=ok.1;omega) (λd hd=>absurd hd Av) λw hw=>by
  obtain⟨f,hf',rfl⟩:=Bi.mp hw;rw[hf,px (ok.2 f hf')];exact P0 (ok.2 f hf') (hp.2 f hf'),DW hf ok.2]
 rfl
theorem Yz(h:gC a)(hb:∀b,a.to=ae b->b < 100):iw a.hw a.ws=.inr a.d:=by
 obtain⟨hfs,hpat⟩:=h;cases a with
 |take fs=>
  have hp:dB .take [] (fs.map Fe.wd)=fs.map Fe.d:=by
   have:=vW (h:=.take) (rest:=[]) (.inl rfl) hfs hpat;rw[A5]at this;exact this
  exact jy (h:=.take) (r:=fs.map Fe.wd) (t:=.none) hp (oU (by rw[Ab,Ab])) (by rw[Ab];exact hpat.1) rfl (by rw[Ab,Ab];exact E7 _ _)
 |read fs=>
  have hp:dB .read [] (fs.map Fe.wd)=fs.map Fe.d:=by
   have:=vW (h:=.read) (rest:=[]) (.inr (.inl rfl)) hfs hpat;rw[A5]at this;exact this
  exact jy (h:=.read) (r:=fs.map Fe.wd) (t:=.none) hp (oU (by rw[Ab,Ab])) (by rw[Ab];exact hpat.1) rfl (by rw[Ab,Ab];exact E7 _ _)
 |look fs b=>
  have hp:dB .look [] (fs.map Fe.wd++[cw b])=fs.map Fe.d:=by
   rw[vW (fs:=fs) (h:=.look) (.inr (.inr rfl)) hfs hpat];exact qR (h:=.look) (acc:=fs.map Fe.d) wI (Q5 (.inl ⟨.none,Az _ (Au.mpr rfl),by decide +kernel⟩))
  have e:(fs.map Fe.wd++[cw b])[(fs.map Fe.d).length]?=ae (cw b):=by
   rw[Ab,<-Ab (f:=Fe.wd) (as:=fs)];exact xl _ _
  exact jy (h:=.look) (r:=fs.map Fe.wd++[cw b]) (t:=.int (b:Nat)) hp (yg (h:=.look) (by rw[Ab];exact hpat.1) (by rw[Ah,Ab,Ab,As];omega) e rfl rfl (vy (hb b rfl))) (by rw[Ab];exact hpat.1) rfl (by rw[Ah,Ab,Ab];exact Ay _)
 |go b=>exact Rf (hb b rfl)
 |same f g b=>
  have A1:=AU (p:=cv) Po (Hg (hfs.2 f Ae) hpat.1);have A2:=AU A1 (Hg (hfs.2 g (Af _ Ae)) hpat.2);have beg:∀ds:List Aa,ds.length<=2->(∀d∈ds,cv d=ah)->eF .same ds=ah:=λds h1 h2=>by
   show(decide ((ds.length:Int)<=2)&&ds.all cv)=ah;rw[decide_eq_true ⋯,Be.mpr h2];rfl
  have begN:∀ds:List Aa,ds.length=3->eF .same ds=ai:=λds h1=>by
   show(decide ((ds.length:Int)<=2)&&ds.all cv)=ai;rw[h1];rfl
  exact jy (h:=.same) (r:=[f.wd,g.wd,cw b]) (ps:=[f.d,g.d]) (t:=.int (b:Nat)) (rX (h:=.same) (acc:=[]) (px (hfs.2 f Ae)) (beg _ (Cn rfl) A1) (rX (h:=.same) (acc:=_) (px (hfs.2 g (Af _ Ae))) (beg _ (Cn rfl) A2) (qR (h:=.same) (acc:=_) rfl (begN _ rfl)))) (yg (h:=.same) (Cn rfl) (Eg rfl) rfl rfl rfl (vy (hb b rfl))) (Cn rfl) rfl (Cn rfl)
 |lay fs age=>
  obtain⟨htm,hage,hl⟩:=hpat;have run:∀rest,dB .lay [] (fs.map Fe.wd++rest)=dB .lay (fs.map Fe.d) rest:=λrest=>by
   rw[qU (h:=.lay) (p:=eR) (m:=4) (λds a b c=>Ms b a c) (fs.map Fe.wd) [] (by rw[Dc,Ab];have:=hfs.1;show 0+fs.length<=4;have:fs.length<=4:=this;omega) (λd hd=>absurd hd Av) λw hw=>by
    obtain⟨f,hf',rfl⟩:=Bi.mp hw;show eR (d9 f.wd)=ah;rw[px (hfs.2 f hf')];exact Rz (hfs.2 f hf') (htm f hf'),DW (fs:=fs) (h:=.lay) (λ_=>rfl) hfs.2]
   rfl
  rcases hage with rfl|⟨i,rfl,h1,h2⟩
  ·have hp:dB .lay [] (fs.map Fe.wd++[])=fs.map Fe.d:=run [];exact jy (h:=.lay) (r:=fs.map Fe.wd++[]) (t:=.none) hp (oU (by rw[A5,Ab,Ab])) (by rw[Ab];exact hl) rfl (by rw[A5,Ab,Ab];exact E7 _ _)
  ·have hp:dB .lay [] (fs.map Fe.wd++[("@":Str)++Bt (C4 i)])=fs.map Fe.d:=by
    rw[run];refine qR (h:=.lay) (acc:=fs.map Fe.d) yD ?_;show((decide ((1:Int)<=(((fs.map Fe.d)++[PyData.none]).length:Int))&&decide ((((fs.map Fe.d)++[PyData.none]).length:Int)<=4))&&((fs.map Fe.d)++[PyData.none]).all eR)=ai;rw[show((fs.map Fe.d)++[PyData.none]).all eR=ai from List.all_eq_false.mpr ⟨.none,Az _ (Au.mpr rfl),by decide +kernel⟩,Gm]
   have e:(fs.map Fe.wd++[("@":Str)++Bt (C4 i)])[(fs.map Fe.d).length]?=ae (("@":Str)++Bt (C4 i)):=by
    rw[Ab,<-Ab (f:=Fe.wd) (as:=fs)];exact xl _ _
   exact jy (h:=.lay) (r:=fs.map Fe.wd++[("@":Str)++Bt (C4 i)]) (t:=.int i) hp (DZ (h:=.lay) (by rw[Ab];exact hl) (by rw[Ah,Ab,Ab,As];omega) e rfl (DY h1 h2)) (by rw[Ab];exact hl) rfl (by rw[Ah,Ab,Ab];exact Ay _)
end
theorem Nz(h0:1<=row.length)(h4:row.length<=4)(hv:∀d∈row,ck d=ah)(ha:iO age):iw .note (row.map b6++di age)=.inr (.tuple [.tuple row,age]):=by
 have mp:(row.map b6).map (fg .note)=row:=by
  rw[Ck]
  conv=>rhs;rw[<-Fy row]
  exact Ey λd hd=>wK (hv d hd)
 have run:∀rest,dB .note [] (row.map b6++rest)=dB .note row rest:=λrest=>by
  rw[qU (h:=.note) (p:=ck) (m:=4) (λds a b c=>ML b a c) (row.map b6) [] (by rw[Dc,Ab];omega) (λd hd=>absurd hd Av) λw hw=>by
   obtain⟨d,hd,rfl⟩:=Bi.mp hw;show ck (cx (b6 d))=ah;rw[wK (hv d hd)];exact hv d hd,mp]
  rfl
 rcases ha with rfl|⟨i,rfl,h1,h2⟩
 ·have hp:dB .note [] (row.map b6++[])=row:=run [];exact jy (h:=.note) (r:=row.map b6++[]) (t:=.none) hp (oU (by rw[A5,Ab])) h0 rfl (by rw[A5,Ab];exact E7 _ _)
 ·have hp:dB .note [] (row.map b6++[("@":Str)++Bt (C4 i)])=row:=by
   rw[run];exact qR (h:=.note) (acc:=row) vC (NQ (.inl ⟨.none,Az _ (Au.mpr rfl),by decide +kernel⟩))
  have e:(row.map b6++[("@":Str)++Bt (C4 i)])[row.length]?=ae (("@":Str)++Bt (C4 i)):=by
   rw[<-Ab (f:=b6) (as:=row)];exact xl _ _
  exact jy (h:=.note) (r:=row.map b6++[("@":Str)++Bt (C4 i)]) (t:=.int i) hp (DZ (h:=.note) h0 (by rw[Ah,Ab,As];omega) e rfl (DY h1 h2)) h0 rfl (by rw[Ah,Ab];exact Ay _)
theorem DX:∀(l m:List Aa),gc (l++m)=ah->gc l=ah
 |[],_,_=>rfl
 |[_],_,_=>rfl
 |a::b::r,m,h=>by
  have h:(decide ((kG a).cps.toList < (kG b).cps.toList)&&gc (b::r++m))=ah:=h;rw[Ak]at h;show(decide ((kG a).cps.toList < (kG b).cps.toList)&&gc (b::r))=ah;rw[h.1,DX (b::r) m h.2];rfl
theorem TR(h:fF (.tuple (l++m))=ah):fF (.tuple l)=ah:=by
 have h:(decide (((l++m).length:Int)<=4)&&((l++m).all (aO 4)&&gc (l++m)))=ah:=h;rw[Ak,Ak,List.all_append,Ak]at h;have h4:=of_decide_eq_true h.1;rw[Ah]at h4;show(decide ((l.length:Int)<=4)&&(l.all (aO 4)&&gc l))=ah;rw[decide_eq_true ⋯,h.2.1.1,DX l m h.2.2];rfl
theorem K9:∀(ws:List Str)(acc:List Aa),fF (.tuple (acc++ws.map .str))=ah->dB .block acc ws=acc++ws.map .str
 |[],acc,_=>by rw[Bo,A5];rfl
 |w::ws,acc,h=>by
  have e:acc++(w::ws).map A7=(acc++[.str w])++ws.map .str:=by rw[A9];rfl
  rw[e]at h ⊢;exact rX (h:=.block) (acc:=acc) rfl (Ve (TR h)) (K9 ws (acc++[.str w]) h)
theorem Tc(h:fF (.tuple (ws.map .str))=ah):iw .block ws=.inr (.tuple (ws.map .str)):=
 jy (h:=.block) (r:=ws) (ps:=ws.map .str) (t:=.none) (K9 ws [] h) (oU (by rw[Ab])) (Bf _) rfl (by rw[Ab];exact E7 _ _)
theorem TH{bs:List Bk}:fv .block d ns (hs++[bs])=(ns,hs++[bs++[(d,[])]]):=by simp[fv]
theorem Uo(h3:3<=hw.no){hs:Hs}{bs:List Bk}:fv hw d ns (hs++[bs++[(e,as)]])=(ns,hs++[bs++[(e,as++[d])]]):=by
 cases hw<;>first|exact absurd h3 ∎|(simp[fv])
theorem Yd{hw:Hw}(h3:3<=hw.no){hs:Hs}{bs:List Bk}(hl:as.length < 8):bV hw.s ns (hs++[bs++[(e,as)]])=ah:=by
 have e1:(hs++[bs++[(e,as)]]).getLast?=ae (bs++[(e,as)]):=by simp
 have e2:(bs++[(e,as)]).getLast?=ae (e,as):=by simp
 cases hw with
 |note=>exact absurd h3 ∎
 |hand=>exact absurd h3 ∎
 |block=>exact absurd h3 ∎
 |lay=>exact O4 e1 e2 hl
 |take=>exact QH e1 e2 hl
 |read=>rw[il (h:=Hw.read.s) ∅ ∅ ∅ ∅ e1 e2];exact decide_eq_true hl
 |look=>exact SU e1 e2 hl
 |same=>exact YT e1 e2 hl
 |go=>exact vV e1 e2 hl
theorem Km(a:Ac):3<=a.hw.no:=by cases a<;>exact Cn rfl
theorem FE{rest:List (List Str)}:∀(qs:List (List Aa×Aa))(i:Nat)(ns:List Aa),(∀q∈qs,hG q)->ns.length+qs.length<=12->gH i (qs.map ff++rest) ns []=gH (i+qs.length) rest (ns++qs.map bM) []
 |[],i,ns,_,_=>by rw[Bo,Bo,A5];rfl
 |q::qs,i,ns,h,hl=>by
  rw[Am]at hl;obtain⟨h0,h4,hv,ha⟩:=h q Ae;have ih:=FE (rest:=rest) qs (i+1) (ns++[bM q]) (λx hx=>h x (Af _ hx)) (by rw[Ah,As];omega);refine kf .note (M9 ⋯) (Nz h0 h4 hv ha) rfl ?_;refine ih.trans ?_;rw[A9,Am,Nat.add_assoc,Nat.add_comm 1];rfl
theorem KQ{rest:List (List Str)}{bs:List Bk}{d:Aa}:∀(as:List Ac)(i:Nat)(ds:List Aa),(∀a∈as,gC a/\∀b,a.to=ae b->b < 100)->ds.length+as.length<=8->gH i (as.map ij++rest) ns (hs++[bs++[(d,ds)]])=gH (i+as.length) rest ns (hs++[bs++[(d,ds++as.map Ac.d)]])
 |[],i,ds,_,_=>by rw[Bo,Bo,A5];rfl
 |a::as,i,ds,h,hl=>by
  rw[Am]at hl;obtain⟨ok,hb⟩:=h a Ae;have ih:=KQ (rest:=rest) (ns:=ns) (hs:=hs) (bs:=bs) (d:=d) as (i+1) (ds++[a.d]) (λx hx=>h x (Af _ hx)) (by rw[Ah,As];omega);refine kf a.hw (Yd (Km a) ⋯) (Yz ok hb) (Uo (Km a)) ?_;refine ih.trans ?_;rw[A9,Am,Nat.add_assoc,Nat.add_comm 1];rfl
def gZ(b:Bl):Bk:=(cW b.1,b.2.map Ac.d)
theorem GB{rest:List (List Str)}:∀(P:List Bl)(i:Nat)(bs:List Bk),(∀b∈P,bO b)->bs.length+P.length<=6->∃j,gH i (P.flatMap gF++rest) ns (hs++[bs])=gH j rest ns (hs++[bs++P.map gZ])
 |[],i,bs,_,_=>⟨i,by rw[Bo,A5];rfl⟩
 |b::P,i,bs,h,hl=>by
  rw[Am]at hl;obtain⟨hw,h8,ha⟩:=h b Ae;obtain⟨j,ih⟩:=GB (rest:=rest) (ns:=ns) (hs:=hs) P (i+1+b.2.length) (bs++[gZ b]) (λx hx=>h x (Af _ hx)) (by rw[Ah,As];omega);refine⟨j,?_⟩;rw[Fo,A9];refine kf .block (PN (bs:=bs) (by simp) ⋯) (Tc (ws:=b.1) hw) TH ?_;have A:=KQ (rest:=P.flatMap gF++rest) (ns:=ns) (hs:=hs) (bs:=bs) (d:=cW b.1) b.2 (i+1) [] ha (by rw[Dc];omega);refine A.trans ?_;rw[Bz];refine ih.trans ?_;rw[A9];rfl
theorem LX{bs:List Bk}(h:bs≠[]):hZ (hs++[bs])=ai:=by
 unfold hZ;rw[show(hs++[bs]).getLast?=ae bs by simp];cases bs with
 |nil=>exact absurd rfl h
 |cons _ _=>rfl
theorem Ki:∀(Ps:List (List Bl))(i:Nat)(hs:Hs),hZ hs=ai->(∀P∈Ps,pO P)->hs.length+Ps.length<=5->gH i (Ps.flatMap fD) ns hs=.inr (ns,hs++Ps.map λP=>P.map gZ)/\hZ (hs++Ps.map λP=>P.map gZ)=ai
 |[],i,hs,hk,_,_=>⟨by rw[Bo,A5];rfl,by rw[Bo,A5];exact hk⟩
 |P::Ps,i,hs,hk,h,hl=>by
  rw[Am]at hl;obtain⟨h1,h6,hb⟩:=h P Ae;have hne:P.map gZ≠[]:=λz=>by
   have:=congrArg E8 z;rw[Ab,Dc]at this;omega
  obtain⟨j,B⟩:=GB (rest:=Ps.flatMap fD) (ns:=ns) (hs:=hs) P (i+1) [] hb (by rw[Dc];omega);rw[Bz]at B;obtain⟨ih,lk⟩:=Ki (ns:=ns) Ps j (hs++[P.map gZ]) (LX hne) (λx hx=>h x (Af _ hx)) (by rw[Ah,As];omega);have e:(hs++[P.map gZ])++Ps.map (λP=>P.map gZ)=hs++(P::Ps).map λP=>P.map gZ:=by rw[A9];rfl
  rw[e]at ih lk;refine⟨?_,lk⟩;rw[Fo];show gH i ((Hw.hand.s::[])::(P.flatMap gF++Ps.flatMap fD)) ns hs=_;exact kf .hand (NX hk ⋯) Oo rfl (B.trans ih)
theorem vc{qs:List (List Aa×Aa)}{Ps:List (List Bl)}(hq:∀q∈qs,hG q)(hql:qs.length<=12)(hP:∀P∈Ps,pO P)(hPl:Ps.length<=5):gH 0 (qs.map ff++Ps.flatMap fD) [] []=.inr (qs.map bM,Ps.map λP=>P.map gZ)/\hZ (Ps.map λP=>P.map gZ)=ai:=by
 obtain⟨a,b⟩:=Ki (ns:=qs.map bM) Ps (0+qs.length) [] rfl hP (by rw[Dc];omega);rw[Bz]at a b;refine⟨?_,b⟩;rw[FE qs 0 [] hq (by rw[Dc];omega),Bz];exact a
theorem Wz(h:dg P ks a=ah):iA P ks a=af:=by
 unfold dg at h;rw[Ak]at h;have e:=yw ks a.fs [];rw[show ks++a9 []=ks from A5 ks,h.1]at e;unfold iA;rw[Option.isNone_iff_eq_none.mp e];dsimp only;rw[if_pos h.2]
theorem BX(h:∀(p:Nat) (a:Ac),as[p]?=ae a->dg P (kn w as p) a=ah):∀(r:List Ac)(p:Nat),as.drop p=r->nJ P w as p r=af
 |[],_,_=>rfl
 |a::r,p,e=>by
  have hp:as[p]?=ae a:=by
   have:=congrArg List.head? e;rw[List.head?_drop]at this;exact this
  rw[nJ,Wz (h p a hp)];dsimp only;refine BX h r (p+1) ?_;rw[<-List.drop_drop,e];rfl
theorem IY{b:Bl}(h:ir P b.1 b.2=ah)(p)(a)(e:b.2[p]?=ae a):dg P (kn b.1 b.2 p) a=ah:=by
 rw[rP,Be]at h;have:=h p (Dh.mpr (Bu.mp e).1);unfold jF at this;rw[e]at this;exact this
theorem EG(h:∀b∈P,ir P b.1 b.2=ah):∀(r:List Bl)(L i:Nat),(∀b∈r,b∈P)->(i=0->∀b,r.head?=ae b->b.1=[])->∃L',nk P L i r=.inl L'
 |[],L,_,_,_=>⟨L,rfl⟩
 |b::r,L,i,hm,h0=>by
  have e:mC P i b=af:=by
   unfold mC;rw[if_neg λz=>z.2 (h0 z.1 b rfl),BX (IY (h b (hm b Ae))) b.2 0 rfl];rfl
  rw[nk,e];exact EG h r _ (i+1) (λx hx=>hm x (Af _ hx)) λz=>absurd z (Nat.succ_ne_zero i)
theorem HW:∀(Ps:List (List Bl))(L:Nat),(∀P∈Ps,iR P=ah)->jE L Ps=af
 |[],_,_=>rfl
 |P::Ps,L,h=>by
  have hp:=h P Ae;unfold iR at hp;rw[Ak,Be]at hp;obtain⟨L',e⟩:=EG hp.2 P (L+1) 0 (λb hb=>hb) λ_ b hb=>by
   cases P with
   |nil=>cases hb
   |cons c r=>
    cases hb;exact List.isEmpty_iff.mp hp.1
  rw[jE,e];exact HW Ps L' λx hx=>h x (Af _ hx)
theorem HD(P:List Bl):Fx ((P.map gZ).map eX)=bE P:=by
 rw[Ck];rfl
theorem RB(hs:ls.map (λx=>D1 x fI)=bK qs Ps)(hl:ls.length<=300)(hx:∀x∈ls,x.length<=500)(ok:PlO Ps qs):RdOk ls (qs.map bM) (Ps.map λP=>P.map gZ) Ps:=by
 obtain⟨a,b⟩:=vc ok.qo ok.ql (λP hP'=>(ok.po P hP').1) ok.pl;refine⟨hl,hx,by rw[hs];exact a,b,?_,λP hP'=>⟨A4 (ok.po P hP').1.2.1 ∎,(ok.po P hP').2.2⟩,HW Ps _ λP hP'=>(ok.po P hP').2.1⟩;rw[Ck];exact Ey λP _=>HD P
theorem IM(h:ws≠[])(hf:∀w∈ws,32∉w.cps.toList):D1 (D6 fI ws) fI=ws:=by
 have hb:fI=⟨#[32]⟩:=by decide +kernel
 rw[RM];unfold D6;rw[StrLaws.glued_eq_join,hb,zA 32 ws h hf,Ck];exact Fy _
theorem Lu(h:iO age):∀w∈di age,32∉w.cps.toList:=by
 rcases h with rfl|⟨i,rfl,h1,h2⟩
 ·exact λw hw=>absurd hw Av
 ·intro w hw;rw[Au.mp hw];obtain⟨k,rfl⟩:∃k:Nat,i=k:=⟨i.toNat,by omega⟩;exact qN pQ ∎ (wL k ⋯)
theorem uq(h:Hw):32∉h.s.cps.toList:=by cases h<;>decide +kernel
theorem xG(h:b < 100):32∉(cw b).cps.toList:=qN rR ∎ (wL b ⋯)
theorem sS{fs:List Fe}(h:∀f∈fs,f.ok):∀w∈fs.map Fe.wd,32∉w.cps.toList:=λw hw=>by
 obtain⟨f,hf,rfl⟩:=Bi.mp hw;exact vt (h f hf)
theorem Rn(h:gC a)(hb:∀b,a.to=ae b->b < 100):∀w∈ij a,32∉w.cps.toList:=by
 intro w hw;rcases Aq.mp hw with rfl|hw
 ·exact uq _
 obtain⟨hfs,hp⟩:=h;cases a with
 |take fs=>exact sS hfs.2 w hw
 |read fs=>exact sS hfs.2 w hw
 |look fs b=>
  rcases Ax.mp hw with hw|hw
  ·exact sS hfs.2 w hw
  ·rw[Au.mp hw];exact xG (hb b rfl)
 |go b=>rw[Au.mp hw];exact xG (hb b rfl)
 |same f g b=>
  rcases Aq.mp hw with rfl|hw
  ·exact vt (hfs.2 f Ae)
  ·rcases Aq.mp hw with rfl|hw
   ·exact vt (hfs.2 g (Af _ Ae))
   ·rw[Au.mp hw];exact xG (hb b rfl)
 |lay fs age=>
  rcases Ax.mp hw with hw|hw
  ·exact sS hfs.2 w hw
  ·exact Lu hp.2.1 w hw
theorem WU(h:hG q):∀w∈ff q,32∉w.cps.toList:=by
 intro w hw;rcases Aq.mp hw with rfl|hw
 ·exact uq .note
 rcases Ax.mp hw with hw|hw
 ·obtain⟨d,hd,rfl⟩:=Bi.mp hw;exact Kv (h.2.2.1 d hd)
 ·exact Lu h.2.2.2 w hw
theorem ON(h:bO b):∀ws∈gF b,ws≠[]/\∀w∈ws,32∉w.cps.toList:=by
 intro ws hws;rcases Aq.mp hws with rfl|hws
 ·refine⟨(λz=>nomatch z),λw hw=>?_⟩;rcases Aq.mp hw with rfl|hw
  ·exact uq .block
  ·have h1:(decide (((b.1.map A7).length:Int)<=4)&&((b.1.map A7).all (aO 4)&&gc (b.1.map A7)))=ah:=h.1;rw[Ak,Ak]at h1;exact qM (Be.mp h1.2.1 (.str w) (G0 hw))
 ·obtain⟨a,ha,rfl⟩:=Bi.mp hws;exact⟨(λz=>nomatch z),Rn (h.2.2 a ha).1 (h.2.2 a ha).2⟩
theorem uw(hq:∀q∈qs,hG q)(hP:∀P∈Ps,pO P):∀ws∈bK qs Ps,ws≠[]/\∀w∈ws,32∉w.cps.toList:=by
 intro ws hws;rcases Ax.mp hws with hws|hws
 ·obtain⟨q,hq',rfl⟩:=Bi.mp hws;exact⟨(λz=>nomatch z),WU (hq q hq')⟩
 ·obtain⟨P,hP',hws⟩:=Cg.mp hws;rcases Aq.mp hws with rfl|hws
  ·exact⟨(λz=>nomatch z),λw hw=>by rw[Au.mp hw];exact uq .hand⟩
  ·obtain⟨b,hb,hws⟩:=Cg.mp hws;exact ON ((hP P hP').2.2 b hb) ws hws
theorem wM(hq:∀q∈qs,hG q)(hP:∀P∈Ps,pO P):((bK qs Ps).map (D6 fI)).map (λx=>D1 x fI)=bK qs Ps:=by
 rw[Ck]
 conv=>rhs;rw[<-Fy (bK qs Ps)]
 exact Ey λws hws=>IM (uw hq hP ws hws).1 (uw hq hP ws hws).2
theorem OV(hq:∀q∈qs,hG q)(hql:qs.length<=12)(hP:∀P∈Ps,pO P)(hPl:Ps.length<=5)(hq':∀q∈qs',hG q)(hql':qs'.length<=12)(hP':∀P∈Ps',pO P)(hPl':Ps'.length<=5)
  (e:(bK qs Ps).map (D6 fI)=(bK qs' Ps').map (D6 fI)):qs.map bM=qs'.map bM/\Ps.map bE=Ps'.map bE:=by
 have e1:=congrArg (Ea λx=>D1 x fI) e;rw[wM hq hP,wM hq' hP']at e1;have a:=(vc hq hql hP hPl).1;have b:=(vc hq' hql' hP' hPl').1;have e2:qs.map ff++Ps.flatMap fD=qs'.map ff++Ps'.flatMap fD:=e1;rw[e2,b]at a;have c:=Prod.mk.inj (Sum.inr.inj a);refine⟨c.1.symm,?_⟩;have d:=congrArg (Ea λbs:List Bk=>Fx (bs.map eX)) c.2;rw[Ck,Ck]at d;have k:∀Ps:List (List Bl),Ps.map ((λbs:List Bk=>Fx (bs.map eX)) ∘ λP=>P.map gZ)=Ps.map bE:=λPs=>Ey λP _=>HD P;rw[k,k]at d;exact d.symm
theorem Y1(h6:P.length<=6)(h:∀b∈P,ir P b.1 b.2=ah)(hb:b∈P)(ha:a∈b.2):∀c,a.to=ae c->c < 100:=λc e=>by
 obtain⟨p,hp⟩:=List.getElem?_of_mem ha;have r:=IY (h b hb) p a hp;unfold dg at r;rw[Ak,e]at r;have t:(match P[c]? with|some bl=>bl.1.all λk=>decide (k∈kn b.1 b.2 p)|none=>ai)=ah:=r.2;cases hc:P[c]? with
 |none=>rw[hc]at t;cases t
 |some bl=>
  have:=(Bu.mp hc).1;omega
theorem Iw(h:h9 d=ah):∃P,d=bE P/\pO P/\iR P=ah/\∀b∈P,eS b:=by
 by_cases e:∃P,d=bE P/\kQ P
 ·obtain⟨P,rfl,hw⟩:=e;rw[vK hw]at h;obtain⟨hb,h1,h6,hwf⟩:=hw;have hp:=h;unfold iR at hp;rw[Ak,Be]at hp;refine⟨P,rfl,⟨h1,h6,λb hb'=>⟨?_,(hwf b hb').2.2.1,λa ha=>⟨(hwf b hb').2.2.2 a ha,Y1 h6 hp.2 hb' ha⟩⟩⟩,h,hwf⟩;have hb:((decide ((1:Int)<=((P.map bR).length:Int))&&decide (((P.map bR).length:Int)<=6))&&(P.map bR).all gS)=ah:=hb;rw[Ak,Be]at hb;have k:(fF (cW b.1)&&jc (.tuple (b.2.map Ac.d)))=ah:=hb.2 (bR b) (G0 hb');rw[Ak]at k;exact k.1
 ·rw[EL e]at h;cases h
theorem L6(h:iz d=ah):∃q,d=bM q/\hG q:=by
 cases d with
 |tuple ds=>
  rcases ds with _|⟨a,_|⟨b,_|⟨c,r⟩⟩⟩
  ·cases h
  ·cases h
  ·have h:(eB a&&cj b)=ah:=h;rw[Ak]at h;cases a with
   |tuple row=>
    have hr:(decide ((1:Int)<=(row.length:Int))&&(decide ((row.length:Int)<=4)&&row.all ck))=ah:=h.1;rw[Ak,Ak,Be]at hr;have r1:=of_decide_eq_true hr.1;have r2:=of_decide_eq_true hr.2.1;refine⟨(row,b),rfl,by show 1<=row.length;omega,by show row.length<=4;omega,hr.2.2,?_⟩;have ha:(dU b || ot 1 20 b)=ah:=h.2;cases b with
    |none=>exact .inl rfl
    |int i=>
     have hi:(decide ((1:Int)<=i)&&decide (i<=20))=ah:=by
      rw[Gy]at ha;rcases ha with z|z
      ·cases z
      ·exact z
     rw[Ak]at hi;exact .inr ⟨i,rfl,of_decide_eq_true hi.1,of_decide_eq_true hi.2⟩
    |_=>cases ha
   |_=>exact absurd h.1 (by intro z;cases z)
  ·cases h
 |_=>cases h
theorem yP{α:Type}{f:α->Aa}{p:α->Prop}:∀{ds:List Aa},(∀d∈ds,∃x,d=f x/\p x)->∃xs:List α,ds=xs.map f/\∀x∈xs,p x
 |[],_=>⟨[],rfl,λx hx=>absurd hx Av⟩
 |d::ds,h=>by
  obtain⟨x,rfl,hx⟩:=h d Ae;obtain⟨xs,rfl,hxs⟩:=yP λd hd=>h d (Af _ hd);exact⟨x::xs,rfl,λy hy=>(Aq.mp hy).elim (λe=>e▸hx) (hxs y)⟩
theorem Nq(hp:∀d∈ps,h9 d=ah)(hn:∀d∈ns,iz d=ah):∃(Ps:List (List Bl))(qs:List (List Aa×Aa)),ps=Ps.map bE/\ns=qs.map bM/\(∀P∈Ps,pO P/\iR P=ah/\∀b∈P,eS b)/\∀q∈qs,hG q:=by
 obtain⟨Ps,e1,h1⟩:=yP (f:=bE) (p:=λP=>pO P/\iR P=ah/\∀b∈P,eS b) λd hd=>by
  obtain⟨P,e,h⟩:=Iw (hp d hd);exact⟨P,e,h⟩
 obtain⟨qs,e2,h2⟩:=yP (f:=bM) (p:=hG) λd hd=>L6 (hn d hd);exact⟨Ps,qs,e1,e2,h1,h2⟩
inductive Pn:Nat->Aa->Prop
 |non {k:Nat}:Pn k .none
 |int {k:Nat} (i:Int):0<=i->i<=100->Pn k (.int i)
 |str {k:Nat} (x:Str):x.length<=60->Bw x=ah->Pn k (.str x)
 |tuple {k:Nat} {ds:List Aa}:ds.length<=12->(∀d∈ds,Pn k d)->Pn (k+1) (.tuple ds)
def kx:Nat->bx
 |0=>λ_ _ _=>False
 |t+1=>λws n Q=>∃(d:Aa)(k:Nat),ws=[.tp,.d d]/\Pn k d/\k<=t/\n+(k:Int)+1 < 2 ^ 39/\∀(d':Aa)(n':Int),Th 12 (k+1) d'->n'<=n+(k:Int)+1->Q (.d d') n'
abbrev sj:aL:=(aq (aT 1 (w2 ↥0 ⇑0 aD)) (aq (aX (cT (je [("any","?"),("word","$"),("number","#")] ↥1)) (aw (dE [("any","?"),("word","$"),("number","#")] ↥1)) aG) (aq (aX (cT (je [("bind","?"),("as","="),("next","+")] ↥1)) (aw (w2 ⇑1006 (w2 ↥0 ⇑1 aD) de)) aG) (aw (wB cm (ao (w2 ↥0 ⇑1 aD) ak))))))
abbrev Rm:aL:=(aw (w2 ⇑"@" (wB cm (ao ↥0 ak)) de))
abbrev Xp:aL:=(aw (w2 ⇑">" (wB cm (ao ↥0 ak)) de))
abbrev WS:aL:=(aw (eQ (cT (w2 ↥0 (wC .none) (bz ai))) (aV (aR ak)) (aV (aR (ao (az zq (ao ↥0 ak)) ak)))))
abbrev EX:aL:=(aw (fY ⇑" " (w2 (w2 (aV (aR (ao ⇑"note" ak))) (aV (bB [af] (bN (w2 ↥0 ⇑0 aD)) (aF 0) aQ (wB cm (ao ↥0 ak)))) eA) (az pj (ao (w2 ↥0 ⇑1 aD) ak)) eA)))
abbrev GW:aL:=(aq (bD 1 (gy (aV (aR (ao (w2 ↥0 ⇑0 aD) ak))) (aV (bB [af] (bN (az uu (ao ↥0 ak))) (aF 0) aQ (az uv (ao ↥0 ak)))))) (aq (aX (cT (w2 (w2 ↥0 ⇑0 aD) ⇑"lay" bA)) (fQ 1 (az pj (ao (w2 ↥0 ⇑2 aD) ak))) aG) (aq (aX (cT (dH Zc (w2 ↥0 ⇑0 aD))) (br 1 (az sU (ao (w2 ↥0 (cY ⇑1) aD) ak))) aG) (bW 1 ⇑1011))))
abbrev K8:aL:=(aq (bD 1 (aR (ao ⇑"hand" ak))) (aq (bj (bN ↥0) (cR 2 (bP (aF 2) (bP (aF 3) cq))) (aq (br 1 (fY ⇑" " (w2 (aV (aR (ao ⇑"block" ak))) (wB mf (ao ↥2 ak)) eA))) (fQ 1 (aV (bB [af] (bN ↥3) (aF 0) aQ (az sE (ao ↥0 ak))))))) (bW 1 (aw ↥1))))
abbrev BV:aL:=(aq (bD 1 (bB [af] (bN (w2 ↥0 ⇑1 aD)) (aF 0) aQ (az zo (ao ↥0 ak)))) (aq (bj (bN (w2 ↥0 ⇑0 aD)) (aF 2) (fQ 1 (az zj (ao ↥2 ak)))) (AQ 1)))
abbrev Hj:aL:=(aq (wz 1 (lA [("any","?"),("word","$"),("number","#"),("bind","?"),("as","="),("next","+")])) (aq ⇑1018 ⇑1020))
abbrev qS:aL:=(aq (bD 1 (aR (ao (w2 ↥0 ⇑0 a8) ak))) (aq (aT 2 (eQ (cT (w2 (w2 ↥0 ⇑0 a8) ⇑"same" cf)) (cu ↥0 (cg ⇑1) (cg ⇑3)) (w2 ↥0 ⇑1 a8))) (aq (aX (cT (w2 (w2 ↥0 ⇑0 a8) ⇑"go" iG)) (bD 1 (gy (fL 1) (aV (bB [af] (bN ↥2) (aF 0) aQ (az xA (ao ↥0 ak)))))) aG) (aq ⇑1008 ⇑1005))))
abbrev Hl:aL:=(aq (bD 1 (aR ak)) (aq (bj (bN (w2 ↥0 ⇑1 a8)) (cR 2 (bP (aF 2) (bP (aF 3) cq))) (aq (bD 4 (gy (aV (aR (ao ⇑"note" ak))) (aV (bB [af] (bN ↥2) (aF 0) aQ (wB cm (ao ↥0 ak)))))) (aq (aX (cT (w2 ↥3 (wC .none) (bz ah))) (br 4 (w2 ⇑"@" (wB cm (ao ↥3 ak)) de)) aG) (bW 4 (br 1 (fY ⇑" " ↥4)))))) (aq (bj (bN (w2 ↥0 ⇑0 a8)) (aF 5) (aq (br 1 ⇑"hand") (bj (bN ↥5) (cR 2 (bP (aF 6) (bP (aF 7) cq))) (aq ⇑1017 (bD 1 (gy (fL 1) (aV (bB [af] (bN ↥7) (aF 0) aQ (az rL (ao ↥0 ak)))))))))) (bW 1 (aw ↥1)))))
abbrev HG(Sf:bx):aL:=(aq (aX (df (cT (bq "tuple" ↥1)) (cT (w2 ↥1 (aB ak) (k0 ah)))) (aq (aT 2 (az cU (ao ↥0 (ao (wB aP (ao ↥1 ak)) ak)))) (aw (w2 (w2 (cu ↥1 cJ (cg ↥2)) (aB (ao (az Sf (ao ↥0 (ao (w2 ↥1 ↥2 aD) ak))) ak)) iQ) (cu ↥1 (cg (w2 ↥2 ⇑1 (dN λi j=>.int (i+j)))) cJ) iQ))) aG) (aq (aX (cT (bq "int" ↥1)) (aw (w2 (aV (aR (ao (w2 ↥1 ⇑1 (dN λi j=>.int (i+j))) (ao ⇑0 (ao ⇑99 (ao ⇑20 ak)))))) ⇑1010 aD)) aG) ⇑1003))
abbrev Ho:aL:=(aq (aT 1 (aV (iy iZ (ao ↥0 ak)))) (aq (aT 2 (az wO (ao ↥0 ak))) (aq (bj (eY (aV (aR (ao ↥1 (ao ↥2 ak))))) (aF 3) (aq (bD 4 (ky ↥3)) (aq (aT 5 (az kg (ao (fL 4) ak))) (aq (aX (cE (cT (w2 (wB gU (ao ↥5 ak)) (wB gU (ao ↥0 ak)) iG)) (cE (cT (w2 (fL 4) ↥3 (mM λd e=>ae (!Bp d e)))) (cT (w2 (aV (iy iZ (ao ↥5 ak))) ↥1 (mM λd e=>ae (!Bp d e)))))) (aw (wC (.bool ai))) aG) (aq (br 4 ⇑"hand") (aq (hV 4 ⇑0 ⇑"note a") (aX (cT (w2 (wB gU (ao ↥5 ak)) (wB gU (ao ↥0 ak)) iG)) (aw (wC (.bool ai))) aG))))))) (aw (wC (.bool ah))))))
abbrev CF:aL:=(aq (aT 1 (aV (iy iZ (ao ↥0 ak)))) (aq (aT 2 (aV (bB [af] (eY ↥1) (aF 0) (cT (w2 ⇑1022 ⇑"note" (fw λd e=>ae (Bp d e)))) ↥0))) (aq (aT 3 (aV (bB [af] (eY ↥1) (aF 0) (cT (w2 ⇑1022 ⇑"note" (fw λd e=>ae (!Bp d e)))) ↥0))) (aw (aM (w2 (az kg (ao ↥2 ak)) (aB (ao (aB ak) (ao (w2 ↥0 ⇑1 aD) ak))) (fw λd e=>ae (Bp d e))) (w2 (az kg (ao ↥3 ak)) (aB (ao (w2 ↥0 ⇑0 aD) (ao (aB ak) ak))) (fw λd e=>ae (Bp d e))))))))
abbrev Ka:aL:=(aq (aX (cT (w2 (wB gU (ao (az kg (ao (aV (aR ak)) ak)) ak)) (wB gU (ao (aB (ao (aB ak) (ao (aB ak) ak))) ak)) iG)) (aw (wC (.bool ai))) aG) (aq (bj (dF ⇑3) (aF 2) (aq (aT 3 (az uI (ao ↥1 ak))) (aq (aT 3 (aB (ao (cu (w2 ↥3 ⇑0 aD) cJ (cg ⇑3)) (ao (w2 ↥3 ⇑1 aD) ak)))) (aq (aX (cE (df (cT (w2 ↥3 (aB (ao (aB ak) (ao (aB ak) ak))) (fw λd e=>ae (!Bp d e)))) (bw (cT (az yk (ao ↥3 ak))))) (bw (cT (az lN (ao ↥3 ak))))) (aw (wC (.bool ai))) aG) (bj (dF ⇑4) (aF 4) (aq (aT 5 (az (kx 9) (ao ↥1 (ao ↥3 ak)))) (aX (cT (az o6 (ao ↥5 ak))) (aq (aX (cT (w2 (w2 (aV (iy iZ (ao ↥5 ak))) (aV (iy iZ (ao ↥3 ak))) (fw λd e=>ae (Bp d e))) (w2 ↥5 ↥3 (fw λd e=>ae (Bp d e))) (fw λd e=>ae (!Bp d e)))) (aw (wC (.bool ai))) aG) (aX (cT (w2 (wB gU (ao (az kg (ao (aV (iy iZ (ao ↥5 ak))) ak)) ak)) (wB gU (ao ↥5 ak)) iG)) (aw (wC (.bool ai))) aG)) aG))))))) (aw (wC (.bool ah)))))
open PyProof.Rows.KTD (datumAt)
theorem KU:∀ys:List Str,jW (ys.map .str)=ae ys
 |[]=>rfl
 |y::r=>by
  show(jW (r.map .str)).map (y::·)=_;rw[KU r];rfl
theorem uY:∀{ys:List Str},(∀y∈ys,y.length<=m)->(ys.map (·.length)).sum<=m*ys.length
 |[],_=>Bf _
 |y::r,h=>by
  have h1:=uY λx hx=>h x (Af _ hx);have h2:=h y Ae;rw[A3,List.sum_cons,Am,Nat.mul_succ];omega
def jC(ys:List Str):Prop:=ys.length<=8/\∀y∈ys,y.length<=20
section
variable{δ:Sl}{n:Int}{Q:DQ}{K:DEnds}{i:Nat}
theorem Rv{z:Str}(hz:z.length<=10)(h:jC ys):(ys.map (·.length)).sum+ys.length*z.length<=16777216:=by
 have h1:=uY h.2;have h2:ys.length*z.length<=8*10:=Nat.mul_le_mul h.1 hz;have:=h.1;omega
theorem JF(hd:d=.list (ys.map .str)\/d=.tuple (ys.map .str))(hw:∀Q:DQ,Q (.d d) n->w' δ n Q)(hz:z.length<=10)(h:jC ys)(k:Q (.d (.str (D6 z ys))) n):fY (wC (.str z)) w' δ n Q:=by
 refine(show wC (.str z) δ n _ from aJ (hw _ ?_));rcases hd with rfl|rfl <;>
 ·show(match jW (ys.map .str)with|some ys=>(ys.map (·.length)).sum+ys.length*z.length<=16777216/\Q (.d (.str (D6 z ys))) n|none=>False);rw[KU];exact⟨Rv hz h,k⟩
theorem mP(hw:∀Q:DQ,Q (.d (.list (ys.map .str))) n->w' δ n Q)(h:jC ys)(k:Q (.d (.str (dQ ys))) n):fY ⇑" " w' δ n Q:=JF (.inl rfl) hw ∅ h k
theorem pL{D:List (Str×Str)}{Q:Bool->Int->Prop}(hw:∀Q:DQ,Q (.d (.str s)) n->w δ n Q)(e:(datumAt s D).isSome=b)(q:Q b n):cT (je D w) δ n Q:=hw _ (by show Q (datumAt s D).isSome n;rw[e];exact q)
theorem BY{D:List (Str×Str)}(hw:∀Q:DQ,Q (.d (.str s)) n->w δ n Q)(e:datumAt s D=ae v)(hl:v.length<=1000)(k:Q (.d (.str v)) n):dE D w δ n Q:=hw _ (by
 show(match datumAt s D with|some s=>s.length<=1000/\Q (.d (.str s)) n|none=>False);rw[e];exact⟨hl,k⟩)
theorem lu(h:a.length+b.length<=1000)(k:Q (.d (.str (a++b))) n):de (.d (.str a)) (.d (.str b)) n Q:=An (jg h) k
theorem vM:∀k:Nat,k < 100->((k:Int).natAbs.log2 < 1920/\(Bt (C4 (k:Int))).length<=3):=by decide +kernel
theorem mY(h:k < 100)(q:Q (.d (.str (sK k))) n):cm [.d (.int (k:Nat))] n Q:=An ⟨(vM k h).1,A4 (vM k h).2 ∎⟩ q
theorem rQ(h:ck d=ah)(k:Q (.d (.str (b6 d))) n):cm [.d d] n Q:=by
 rcases l6 h with⟨x,rfl,_⟩|⟨j,rfl,hj⟩
 ·exact k
 ·exact mY hj k
end
theorem JP(h:aO m (.str x)=ah):(x.length:Int)<=m:=zV h
theorem nG(h:k < 100):(sK k).length<=3:=(vM k h).2
theorem Hm(h:ck d=ah):(b6 d).length<=8:=by
 rcases l6 h with⟨x,rfl,hx⟩|⟨j,rfl,hj⟩
 ·have:=JP hx;show x.length<=8;omega
 ·exact A4 (nG hj) ∎
theorem ju(h:eu k):k.length<=4:=by
 have:=JP h.1;omega
theorem nY{a b:Str}(h:a.length<=m):∀{k:Nat},b.length<=k->(a++b).length<=m+k:=λh'=>by rw[Str.length_append];omega
theorem nq(h:kU d=ah):ck d=ah:=by
 unfold kU at h;rw[Ak]at h;exact h.1
theorem RU{f:Fe}(h:f.ok):f.wd.length<=20:=by
 cases f with
 |any=>exact∅
 |word=>exact∅
 |num=>exact∅
 |isv d=>exact A4 (Hm (nq h)) ∎
 |bind k=>exact nY (m:=10) (k:=10) ∅ (A4 (ju h) ∎)
 |as k=>exact nY (m:=10) (k:=10) ∅ (A4 (ju h) ∎)
 |nx k=>exact nY (m:=10) (k:=10) ∅ (A4 (ju h) ∎)
theorem Mc:bS uv sj ["field","head"]:=λws n Q h=>by
 obtain⟨f,rfl,ok,k⟩:=h;have bare:∀s v:Str,f.d=.tuple [.str s]->f.wd=v->datumAt s ([("any","?"),("word","$"),("number","#")]:List (Str×Str))=ae v->v.length<=1000->sj [↑f.d,af] n {nx:=λ_ n=>Q (.d .none) n,rt:=Q}:=λs v e1 e2 e3 e4=>by
  rw[e2]at k;rw[e1];refine aA (dz (x:=.str s) (λQ q=>fJ rfl q) ?_);ac_nf;exact aA (bo (λQ q=>pL (s:=s) (λQ q=>au rfl q) (by rw[e3];rfl) q) (aY (BY (s:=s) (λQ q=>au rfl q) e3 e4 k)))
 have named:∀s v y:Str,f.d=.tuple [.str s,.str y]->f.wd=v++y->datumAt s ([("any","?"),("word","$"),("number","#")]:List (Str×Str))=af->datumAt s ([("bind","?"),("as","="),("next","+")]:List (Str×Str))=ae v->v.length<=100->y.length<=100->sj [↑f.d,af] n {nx:=λ_ n=>Q (.d .none) n,rt:=Q}:=λs v y e1 e2 e3 e4 e5 e6=>by
  rw[e2]at k;rw[e1];refine aA (dz (x:=.str s) (λQ q=>fJ rfl q) ?_);ac_nf;refine aA (aU (λQ q=>pL (s:=s) (λQ q=>au rfl q) (by rw[e3];rfl) q) ?_);ac_rfl;exact aA (bo (λQ q=>pL (s:=s) (λQ q=>au rfl q) (by rw[e4];rfl) q) (aY (av (BY (s:=s) (λQ q=>au rfl q) e4 ⋯ (gw rfl (lu ⋯ k))))))
 show sj [↑f.d,af] n _;cases f with
 |any=>exact bare "any" "?" rfl rfl ∅ ∅
 |word=>exact bare "word" "$" rfl rfl ∅ ∅
 |num=>exact bare "number" "#" rfl rfl ∅ ∅
 |bind y=>exact named "bind" "?" y rfl rfl ∅ ∅ ∅ (A4 (ju ok) ∎)
 |as y=>exact named "as" "=" y rfl rfl ∅ ∅ ∅ (A4 (ju ok) ∎)
 |nx y=>exact named "next" "+" y rfl rfl ∅ ∅ ∅ (A4 (ju ok) ∎)
 |isv d=>
  refine aA (dz (x:=.str "is") (λQ q=>fJ (a:=.str "is") (r:=[d]) rfl q) ?_);ac_nf;refine aA (aU (λQ q=>pL (s:="is") (λQ q=>au rfl q) ∅ q) ?_);ac_rfl;refine aA (aU (λQ q=>pL (s:="is") (λQ q=>au rfl q) ∅ q) ?_);ac_rfl;exact aY (aZ (gw (a:=.str "is") (b:=d) (r:=[]) rfl (rQ (nq ok) k)))
theorem nR{i:Int}(h1:1<=i)(h2:i<=20):∃k:Nat,i=(k:Nat)/\k < 100:=⟨i.toNat,by omega,by omega⟩
theorem uB(h:k < 100):Str.length "@"+(sK k).length<=1000:=A4 (Nat.add_le_add (show Str.length "@"<=10 by decide +kernel) (nG h)) ∎
theorem Ui:bS zq Rm ["age"]:=λws n Q h=>by
 obtain⟨i,rfl,h1,h2,k⟩:=h;obtain⟨j,rfl,hj⟩:=nR h1 h2;exact aY (av (aJ (aZ (au rfl (mY hj (lu (uB hj) k))))))
theorem X4:bS sU Xp ["block"]:=λws n Q h=>by
 obtain⟨b,rfl,hb,k⟩:=h;exact aY (av (aJ (aZ (au rfl (mY hb (lu (A4 (Nat.add_le_add (show Str.length ">"<=10 by decide +kernel) (nG hb)) ∎) k))))))
section
variable{δ:Sl}{n:Int}{Q:DQ}{K:DEnds}{i:Nat}
theorem ke{Q:List Aa->Int->Prop}(hw:∀Q:DQ,Q (.d x) n->w δ n Q)(k:Q [x] n):aR (ao w ak) δ n Q:=hw _ (An (show 1<=1000 by decide) k)
theorem PR(e:δ[i]?=ae (↑(.tuple ds)))(h:cF ds (-1)=ae x)(k:Q (.d x) n):w2 (aj i) (cY (wC (.int 1))) aD δ n Q:=by
 refine av (au e ?_);show(match cF ds (-1)with|some d=>Q (.d d) n|none=>False);rw[h];exact k
theorem rg(h:xs.length+ys.length<=1000)(k:Q (.d (.list (xs++ys))) n):eA (.d (.list xs)) (.d (.list ys)) n Q:=An (jg h) k
theorem IK{Q:List Aa->Int->Prop}(ha:∀Q:DQ,Q (.d (.list xs)) n->wa δ n Q)(hb:∀Q:DQ,Q (.d (.list ys)) n->wb δ n Q)(h:xs.length+ys.length<=1000)(k:Q (xs++ys) n):gy wa wb δ n Q:=ha _ (hb _ (An (jg h) k))
theorem ko(k:w δ n λds n1=>K.nx (δ.set i (ae (.own ds))) n1):bD i w δ n K:=k
theorem oQ(hw:∀Q:DQ,Q ‹ds› n->w δ n Q)(k:c6 g W K ds δ n):bj (bN w) g W δ n K:=hw _ k
theorem HI(e:δ[i]?=ae (ae (.own es)))(hw:∀Q:DQ,Q (.d (.list fs)) n->w δ n Q)(h1:es.length < 1000000)(h2:fs.length < 1000000)(k:K.nx (δ.set i (ae (.own (es++fs)))) n):fQ i w δ n K:=by
 unfold fQ;rw[e];exact hw _ (An ⟨h1,h2⟩ k)
end
theorem mH{α:Type}{rest:Sl}(dd tt):∀(l:List α)(acc:List Aa)(x:Option SV)(n:Int),(∀a∈l,∀(n:Int)(Q':DQ),Q' (.d (tt a)) n->w (↑(dd a)::rest) n Q')->Q (acc++l.map tt) n->cM (aF 0) aQ w Q (l.map dd) acc (x::rest) n
 |[],acc,x,n,_,q=>by
  rw[Bo,A5]at q;exact q
 |a::r,acc,x,n,h,q=>by
  rw[A3];simp only[cM,aF,Br,aQ];rw[if_pos trivial];refine h a Ae _ _ ?_;refine mH dd tt r (acc++[tt a]) _ n (λb hb=>h b (Af _ hb)) ?_;rw[A9];exact q
theorem ZF:bS pj WS ["age"]:=λws n Q h=>by
 obtain⟨d,rfl,hd,k⟩:=h;rcases hd with rfl|⟨i,rfl,h1,h2⟩
 ·exact aY (show eQ _ _ _ _ _ _ from aC (k:=ah) (λQ q=>av (au rfl (aJ q))) (iU k))
 ·exact aY (show eQ _ _ _ _ _ _ from aC (k:=ai) (λQ q=>av (au rfl (aJ q))) (bf (ke (λQ q=>aW (au rfl ⟨i,rfl,h1,h2,q⟩)) k)))
theorem tU(h:iO d):(di d).length<=1/\∀y∈di d,y.length<=20:=by
 rcases h with rfl|⟨i,rfl,h1,h2⟩
 ·exact⟨by decide,λy hy=>by simp[di]at hy⟩
 ·obtain⟨j,rfl,hj⟩:=nR h1 h2;exact⟨by simp[di],λy hy=>by simp only[di,Au]at hy;subst hy;exact nY (m:=10) (k:=10) ∅ (A4 (nG hj) ∎)⟩
theorem uV(h:hG q):jC (ff q):=by
 obtain⟨h0,h1,h2,h3⟩:=h;obtain⟨a1,a2⟩:=tU h3;refine⟨by unfold ff;rw[Am,Ah,Ab];omega,λy hy=>?_⟩;rcases Aq.mp hy with rfl|hy
 ·decide +kernel
 rcases Ax.mp hy with z|z
 ·obtain⟨v,hv,rfl⟩:=Bi.mp z;exact A4 (Hm (h2 v hv)) ∎
 ·exact a2 y z
theorem AN(row:List Aa)(age):([A7 "note"]++(row.map λd=>A7 (b6 d)))++(di age).map A7=(ff (row,age)).map A7:=by
 show _=(("note":Str)::(row.map b6++di age)).map A7;simp[Bc,Ck]
theorem X9:bS zo EX ["note"]:=λws n Q h=>by
 obtain⟨⟨row,age⟩,rfl,ok,k⟩:=h;show EX [↑(.tuple [.tuple row,age])] n _;have sh:=uV ok;obtain⟨h0,h1,h2,h3⟩:=ok;dsimp only at h0 h1 h2 h3;have a1:=(tU h3).1;refine aY (mP (ys:=ff (row,age)) (λQ q=>?_) sh k);refine av (av (bf (ke (λQ q=>aJ q) (bf (gY (ds:=row) (λQ q=>fJ rfl q) ?_)))));refine kI (λd=>ck d=ah) (λd=>.str (b6 d)) (λd n Q' hd q=>aZ (au rfl (rQ hd q))) _ [] af n h2 ?_;refine rg (by rw[Bz,Ab,As];omega) ?_;refine aW (gw rfl ⟨age,rfl,h3,?_⟩);refine rg (by rw[Bz,Ah,Ab,Ab,As];omega) ?_;rw[Bz,AN];exact q
def Ac.tw:Ac->List Str
 |.lay _ age=>di age
 |.look _ b=>[cw b]
 |.same _ _ b=>[cw b]
 |.go b=>[cw b]
 |_=>[]
theorem tV(a:Ac):ij a=a.hw.s::(a.fs.map Fe.wd++a.tw):=by
 cases a with
 |take fs=>show _::fs.map Fe.wd=_::(fs.map Fe.wd++[]);rw[A5]
 |read fs=>show _::fs.map Fe.wd=_::(fs.map Fe.wd++[]);rw[A5]
 |_=>rfl
theorem MS(h:b < 100):(cw b).length<=20:=nY (m:=10) (k:=10) ∅ (A4 (nG h) ∎)
theorem L5(h:gC a)(ht:toS a):a.tw.length<=1/\∀y∈a.tw,y.length<=20:=by
 have one:∀t,a.to=ae t->a.tw=[cw t]->a.tw.length<=1/\∀y∈a.tw,y.length<=20:=λt e1 e2=>by
  rw[e2];exact⟨Ay 1,λy hy=>by rw[Au.mp hy];exact MS (ht t e1)⟩
 cases a with
 |lay fs age=>exact tU h.2.2.1
 |take fs=>exact⟨Bf _,λy hy=>by simp[Ac.tw]at hy⟩
 |read fs=>exact⟨Bf _,λy hy=>by simp[Ac.tw]at hy⟩
 |look fs t=>exact one t rfl rfl
 |same f g t=>exact one t rfl rfl
 |go t=>exact one t rfl rfl
theorem NZ(h:Hw):h.s.length<=20:=by cases h<;>decide +kernel
theorem yx(ok:gC a)(ht:toS a):jC (ij a):=by
 obtain⟨t1,t2⟩:=L5 ok ht;have:=ok.1.1;rw[tV];refine⟨by rw[Am,Ah,Ab];omega,λy hy=>?_⟩;rcases Aq.mp hy with rfl|hy
 ·exact NZ a.hw
 rcases Ax.mp hy with z|z
 ·obtain⟨f,hf,rfl⟩:=Bi.mp z;exact RU (ok.1.2 f hf)
 ·exact t2 y z
abbrev KD:aL:=aq (aX (cT (w2 (w2 ↥0 ⇑0 aD) ⇑"lay" bA)) (fQ 1 (az pj (ao (w2 ↥0 ⇑2 aD) ak))) aG) (aq (aX (cT (dH Zc (w2 ↥0 ⇑0 aD))) (br 1 (az sU (ao (w2 ↥0 (cY ⇑1) aD) ak))) aG) (bW 1 ⇑1011))
theorem Qi:bS sE GW ["act","words"]:=λws n Q h=>by
 obtain⟨a,rfl,ok,oa,k⟩:=h;show GW [↑a.d,af] n _;have f4:=ok.1.1;have sh:=yx ok oa;obtain⟨r,er⟩:∃r,a.d=.tuple (.str a.hw.s::r):=by cases a<;>exact⟨_,rfl⟩
 refine aA (ko (IK (xs:=[.str a.hw.s]) (ys:=a.fs.map λf:Fe=>A7 f.wd) (λQ q=>bf (ke (x:=.str a.hw.s) (λQ q=>fJ (a:=.str a.hw.s) (r:=r) (by rw[er];rfl) q) q)) (λQ q=>bf (gY (ds:=a.fs.map Fe.d) (λQ q=>aW (au rfl ⟨a,rfl,q⟩)) (mH Fe.d (λf=>.str f.wd) a.fs [] af n (λf hf n Q' q=>aW (au rfl ⟨f,rfl,ok.1.2 f hf,q⟩)) (by rw[Bz];exact q)))) (by rw[Ab,As];omega) ?_));ac_nf;have e0:[A7 a.hw.s]++(a.fs.map λf=>A7 f.wd)=(a.hw.s::a.fs.map Fe.wd).map A7:=by simp[Ck]
 rw[e0];have fin:∀(K:DEnds)(L:List Aa),K.rt=Q->L=(a.hw.s::(a.fs.map Fe.wd++a.tw)).map A7->bW 1 ⇑1011 [↑a.d,ae (.own L)] n K:=λK L eK e=>by
  rw[<-tV]at e;subst e;refine ic rfl ?_;ac_nf;refine aY ?_;rw[eK];exact mP (ys:=ij a) (λQ q=>au rfl q) sh k
 have hl:((a.hw.s::a.fs.map Fe.wd).map A7).length < 1000000:=by rw[Ab,Am,Ab];omega
 have plain:∀(s:Str)(r:List Aa),a.d=.tuple (.str s::r)->b7 "lay" (.str s)=ai->bG (.str s) ((Zc:List Str).map .str)=ai->a.tw=[]->KD [↑a.d,ae (.own ((a.hw.s::a.fs.map Fe.wd).map A7))] n {nx:=λ_ n=>Q (.d .none) n,rt:=Q}:=λs r e1 e2 e3 e4=>by
  rw[e1]at fin ⊢;refine aA (yj (a:=.str s) (r:=r) rfl e2 ?_);ac_rfl;refine aA (aU (λQ q=>i3 (s:=s) (λQ q=>fJ rfl q) e3 q) ?_);ac_rfl;exact fin _ _ rfl (by rw[e4,A5])
 have lead:∀(s:Str)(r:List Aa)(b:Nat),a.d=.tuple (.str s::r)->b7 "lay" (.str s)=ai->bG (.str s) ((Zc:List Str).map .str)=ah->cF (.str s::r) (-1)=ae (.int (b:Nat))->a.to=ae b->a.tw=[cw b]->KD [↑a.d,ae (.own ((a.hw.s::a.fs.map Fe.wd).map A7))] n {nx:=λ_ n=>Q (.d .none) n,rt:=Q}:=λs r b e1 e2 e3 e4 e5 e6=>by
  rw[e1]at fin ⊢;refine aA (yj (a:=.str s) (r:=r) rfl e2 ?_);ac_rfl;refine aA (bo (λQ q=>i3 (s:=s) (λQ q=>fJ rfl q) e3 q) ?_);refine iD (x:=.str (cw b)) (m:=n) rfl (λQ q=>aW (PR rfl e4 ⟨b,rfl,oa b e5,q⟩)) hl ?_;ac_nf;exact fin _ _ rfl (by rw[e6,A3,A3,Bc];rfl)
 cases a with
 |take fs=>exact plain "take" [bJ fs] rfl ∅ ∅ rfl
 |read fs=>exact plain "read" [bJ fs] rfl ∅ ∅ rfl
 |look fs b=>exact lead "look" [bJ fs,.int b] b rfl ∅ ∅ rfl rfl rfl
 |same f g b=>exact lead "same" [f.d,g.d,.int b] b rfl ∅ ∅ rfl rfl rfl
 |go b=>exact lead "go" [.int b] b rfl ∅ ∅ rfl rfl rfl
 |lay fs age=>
  refine aA (Lp (a:=.str "lay") (r:=[bJ fs,age]) rfl ∅ ?_);refine(show fQ 1 _ _ _ _ from aW (av (au rfl (aJ (pB (a:=.str "lay") (b:=bJ fs) (r:=[]) ⟨age,rfl,ok.2.2.1,?_⟩)))));refine An ⟨hl,by rw[Ab];have:=(tU ok.2.2.1).1;omega⟩ ?_;ac_nf;refine aA (aU (λQ q=>i3 (s:="lay") (λQ q=>fJ (a:=.str "lay") (r:=[bJ fs,age]) rfl q) ∅ q) ?_);ac_rfl;exact fin _ _ rfl (by rw[A3,A3,Bc];rfl)
theorem Io{P:List Bl}(h:∀b∈P,b.2.length<=8):(P.flatMap gF).length<=9*P.length:=by
 induction P with
 |nil=>simp
 |cons b r ih=>
  have h1:=ih λx hx=>h x (Af _ hx);have h2:=h b Ae;have hb:(gF b).length=b.2.length+1:=by unfold gF;rw[Am,Ab]
  rw[Fo,Ah,Am,hb];omega
theorem HS(h:pO P):(fD P).length<=55:=by
 have h1:=Io (P:=P) λb hb=>(h.2.2 b hb).2.1;have h2:=h.2.1;unfold fD;rw[Am];omega
theorem rM:∀{Ps:List (List Bl)},(∀P∈Ps,pO P)->(Ps.flatMap fD).length<=55*Ps.length
 |[],_=>Bf _
 |P::r,h=>by
  have h1:=rM λx hx=>h x (Af _ hx);have h2:=HS (h P Ae);rw[Fo,Ah,Am];omega
theorem ve(h:eS b):jC (Hw.block.s::b.1):=by
 obtain⟨h1,h2,_⟩:=h;refine⟨by rw[Am];omega,λy hy=>?_⟩;rcases Aq.mp hy with rfl|hy
 ·decide +kernel
 ·exact A4 (ju (h2 y hy)) ∎
def bU(wss:List (List Str)):List Aa:=(wss.map dQ).map .str
theorem qp(a b):bU (a++b)=bU a++bU b:=by unfold bU;rw[Bc,Bc]
theorem j5(a:List (List Str)):(bU a).length=a.length:=by unfold bU;rw[Ab,Ab]
theorem Lq(b:Bl):A7 (dQ (Hw.block.s::b.1))::(b.2.map λa=>A7 (dQ (ij a)))=bU (gF b):=by
 unfold bU gF;rw[A3,A3,Ck,Ck];rfl
theorem Zt:bS zj K8 ["program","lines","wanted","acts"]:=λws n Q h=>by
 obtain⟨bs,rfl,⟨po,wf⟩,k⟩:=h;show K8 [↑(.tuple (bs.map bR)),af,af,af] n _;refine aA (ko (ke (x:=.str "hand") (λQ q=>aJ q) ?_));ac_nf;refine aA (oQ (λQ q=>au rfl q) ?_);refine eW (λds δ n'=>∃(dn re:List Bl)(x2 x3:Option SV),ds=re.map bR/\dn++re=bs/\n'=n/\δ=[↑(.tuple (bs.map bR)),ae (.own (bU (fD dn))),x2,x3]) (λδ n' I=>?_) (λd r δ n' N I kN=>?_) _ _ _ ⟨[],bs,af,af,rfl,rfl,rfl,rfl⟩
 ·obtain⟨dn,re,x2,x3,e,hdn,rfl,rfl⟩:=I;cases C6.mp e.symm;rw[A5]at hdn;subst hdn;dsimp only;refine ic rfl ?_;ac_nf;exact aY (au rfl k)
 ·obtain⟨dn,re,x2,x3,e,hdn,rfl,rfl⟩:=I;obtain⟨b,re,rfl,rfl,rfl⟩:=Da.mp e.symm;have hb:b∈bs:=by rw[<-hdn];exact Az _ Ae
  have ob:=wf b hb;have pb:=po.2.2 b hb;have sh:=ve ob;have hdl:dn.length+(re.length+1)<=6:=by have:=po.2.1;rw[<-hdn,Ah,Am]at this;exact this
  have hpl:(fD dn).length<=55:=by
   have:=Io (P:=dn) λx hx=>(po.2.2 x (by rw[<-hdn];exact Bx _ hx)).2.1;unfold fD;rw[Am];omega
  have ob1:=ob.1;have ob3:=ob.2.2.1;refine An rfl ?_;dsimp only[bP,cq,aF,Aw];refine aA (iD (x:=.str (dQ (Hw.block.s::b.1))) (m:=n') rfl (λQ q=>mP (ys:=Hw.block.s::b.1) (λQ q=>av (bf (ke (x:=.str "block") (λQ q=>aJ q) (aZ (au rfl (show mf [.d (.tuple (b.1.map .str))] _ _ from rg (by rw[Ab,As];omega) q)))))) sh q) (by rw[j5];omega) ?_);ac_nf;refine HI (fs:=b.2.map λa:Ac=>A7 (dQ (ij a))) rfl (λQ q=>bf (gY (ds:=b.2.map Ac.d) (λQ q=>au rfl q) (mH Ac.d (λa=>.str (dQ (ij a))) b.2 [] af n' (λa ha n Q' q=>aW (au rfl ⟨a,rfl,(pb.2.2 a ha).1,(pb.2.2 a ha).2,q⟩)) (by rw[Bz];exact q)))) (by rw[Ah,j5,As];omega) (by rw[Ab];omega) ?_;refine kN _ _ ⟨dn++[b],re,↑(cW b.1),↑(.tuple (b.2.map Ac.d)),rfl,by rw[A9];exact hdn,rfl,?_⟩;have e1:fD (dn++[b])=fD dn++gF b:=by
   unfold fD;rw[Cy];simp
  rw[e1,qp,<-Lq,A9];rfl
theorem XO(qs:List (List Aa×Aa)):(qs.map λx=>A7 (dQ (ff x)))=bU (bK qs []):=by
 unfold bU bK;rw[List.flatMap_nil,A5,Ck,Ck];rfl
theorem Js(qs)(dn)(P):bK qs (dn++[P])=bK qs dn++fD P:=by
 unfold bK;rw[Cy,A9];simp
theorem Tz:∀ws n Q,iZ ws n Q->BV (cz ["plan","lines","program"] ws) n {nx:=λ_ _=>False,rt:=λ_ _=>False,rn:=Q}:=λws n Q h=>by
 obtain⟨ps,ns,rfl,ok,k⟩:=h;show BV [↑(.tuple [.tuple (ps.map bE),.tuple (ns.map bM)]),af,af] n _;refine aA (ko (gY (ds:=ns.map bM) (λQ q=>gw rfl q) (mH bM (λx=>.str (dQ (ff x))) ns [] af n (λx hx n Q' q=>aW (au rfl ⟨x,rfl,ok.qo x hx,q⟩)) ?_)));ac_nf;refine aA (oQ (λQ q=>fJ rfl q) ?_);refine eW (λds δ n'=>∃(dn re:List (List Bl))(x2:Option SV),ds=re.map bE/\dn++re=ps/\n'=n/\δ=[↑(.tuple [.tuple (ps.map bE),.tuple (ns.map bM)]),ae (.own (bU (bK ns dn))),x2]) (λδ n' I=>?_) (λd r δ n' N I kN=>?_) _ _ _ ⟨[],ps,af,rfl,rfl,rfl,by rw[Bz,XO]⟩
 ·obtain⟨dn,re,x2,e,hdn,rfl,rfl⟩:=I;cases C6.mp e.symm;rw[A5]at hdn;subst hdn;exact k
 ·obtain⟨dn,re,x2,e,hdn,rfl,rfl⟩:=I;obtain⟨P,re,rfl,rfl,rfl⟩:=Da.mp e.symm;have hP:=ok.po P (by rw[<-hdn];exact Az _ Ae);have hdl:dn.length<=5:=by have:=ok.pl;rw[<-hdn,Ah]at this;omega
  have hfl:=rM (Ps:=dn) λx hx=>(ok.po x (by rw[<-hdn];exact Bx _ hx)).1;have hql:=ok.ql;nofun;refine HI (fs:=bU (fD P)) rfl (λQ q=>aW (au rfl ⟨P,rfl,⟨hP.1,hP.2.2⟩,q⟩)) (by rw[j5];unfold bK;rw[Ah,Ab];omega) (by rw[j5];have:=HS hP.1;omega) ?_;refine kN _ _ ⟨dn++[P],re,↑(bE P),rfl,by rw[A9];exact hdn,rfl,?_⟩;rw[Js,qp];rfl
section
variable{δ:Sl}{n:Int}{Q:DQ}{K:DEnds}{i:Nat}{a b c:Aa}{r:List Aa}
theorem WI{D:List (Str×Str)}(k:K.nx (δ.set i (ae (.odk (ll [] (ny D))))) n):wz i (lA D) δ n K:=k
theorem M3(e:δ[i]?=ae (ae (.odk M)))(k:Q (.dk M) n):nr i δ n Q:=by unfold nr;rw[e];exact k
theorem Mw(e:eH M (.inr s)=ae d)(k:Q (.d d) n):qv (.dk M) (.d (.str s)) n Q:=by
 show(match eH M (.inr s)with|some d=>Q (.d d) n|none=>False);rw[e];exact k
theorem lZ(e:δ[i]?=ae (↑(.tuple (a::r))))(k:Q (.d a) n):w2 (aj i) (wC (.int 0)) a8 δ n Q:=av (au e (aJ (show aD _ _ _ _ from gO k)))
theorem yA(e:δ[i]?=ae (↑(.tuple (a::b::r))))(k:Q (.d b) n):w2 (aj i) (wC (.int 1)) a8 δ n Q:=av (au e (aJ (show aD _ _ _ _ from gj k)))
theorem zZ(e:δ[i]?=ae (↑(.tuple (a::b::c::r))))(k:Q (.d c) n):w2 (aj i) (wC (.int 2)) a8 δ n Q:=av (au e (aJ (show aD _ _ _ _ from pB k)))
theorem To(e:δ[i]?=ae (↑(.tuple ds)))(h:cF ds (-1)=ae x)(k:Q (.d x) n):w2 (aj i) (cY (wC (.int 1))) a8 δ n Q:=by
 refine av (au e ?_);show(match cF ds (-1)with|some d=>Q (.d d) n|none=>False);rw[h];exact k
theorem Wn(k:Q (.d (.bool (decide (s=h)))) n):cf (.d (.str s)) (.d (.str h)) n Q:=k
theorem lH(e:δ[i]?=ae (↑(.tuple (.str s::r))))(hk:decide (s=h)=k):∀Q:Bool->Int->Prop,Q k n->cT (w2 (w2 (aj i) (wC (.int 0)) a8) (wC (.str h)) cf) δ n Q:=λQ q=>aC (k:=k) (λQ q=>av (lZ e (aJ (Wn (by rw[hk];exact q))))) q
theorem FC(k:Q (.d (.bool (!decide (s=h)))) n):iG (.d (.str s)) (.d (.str h)) n Q:=k
theorem vd{s a b c:Str}{Q:Bool->Int->Prop}(e:δ[i]?=ae (↑(.tuple (.str s::r))))(h:bG (.str s) [.str a,.str b,.str c]=k)(q:Q k n):cT (w2 (w2 (aj i) (wC (.int 0)) a8) (aB (ao (wC (.str a)) (ao (wC (.str b)) (ao (wC (.str c)) ak)))) (d6 ai)) δ n Q:=by
 refine av (lZ e ?_);show 3<=1000/\jq (.str s)=ah/\_/\Q (bG (.str s) [.str a,.str b,.str c]) n;exact⟨by decide,rfl,rfl,by rw[h];exact q⟩
theorem Ji{Q:List Aa->Int->Prop}(e:δ[i]?=ae (ae (.own xs)))(hb:∀Q:DQ,Q (.d (.list ys)) n->wb δ n Q)(h:xs.length+ys.length<=1000)(k:Q (xs++ys) n):gy (fL i) wb δ n Q:=kF e (hb _ (An (jg h) k))
theorem X1(k:Q (.d (.list ds)) n):pS [.d (.tuple ds)] n Q:=k
end
theorem tf(y):D6 "" [y]=y:=by
 unfold D6;rw[StrLaws.glued_eq_join];rfl
theorem vf:D6 "" []=("":Str):=by decide +kernel
abbrev ux:List (Str×Str):=[("any","?"),("word","$"),("number","#"),("bind","?"),("as","="),("next","+")]
theorem Tj:bS xA Hj ["_law_field","_law_signs"]:=λws n Q h=>by
 obtain⟨f,rfl,ok,k⟩:=h;show Hj [↑f.d,af] n _;refine aA (WI ?_);ac_nf;have va:∀s v:Str,(s,v)∈ux->eH (ll [] (ny ux)) (.inr s)=ae (.str v):=λs v hs=>by
  simp only[Aq,Av,or_false,Prod.mk.injEq]at hs;rcases hs with⟨rfl,rfl⟩|⟨rfl,rfl⟩|⟨rfl,rfl⟩|⟨rfl,rfl⟩|⟨rfl,rfl⟩|⟨rfl,rfl⟩<;>rfl
 generalize ll [] (ny ux)=M at va;have gen:∀(s v:Str)(ys:List Str),f.d=.tuple (.str s::ys.map .str)->f.wd=v++D6 "" ys->b7 "is" (.str s)=ai->(s,v)∈ux->jC ys->v.length+(D6 "" ys).length<=1000->bI (.str s::ys.map .str) (ae 1) af=ys.map .str->
   aq ⇑1018 ⇑1020 [↑f.d,ae (.odk M)] n {nx:=λ_ n=>Q (.d .none) n,rt:=Q}:=λs v ys e1 e2 e3 e4 e5 e7 e8=>by
  rw[e2]at k;rw[e1];refine aA (yj (a:=.str s) (r:=ys.map .str) rfl e3 ?_);ac_rfl;refine aY (av (av (M3 rfl (fJ rfl (Mw (va s v e4) (JF (ys:=ys) (.inr rfl) (λQ q=>?_) ∅ e5 (lu e7 k)))))));unfold cu;refine au rfl ?_;show Q ‹(bI (.str s::ys.map .str) (ae 1) af)› n;rw[e8];exact q
 have s0:jC []:=⟨by decide,λy hy=>by simp at hy⟩;have s1:∀{y:Str},eu y->jC [y]:=λ{y} h=>⟨by simp,λz hz=>by rw[Au.mp hz];exact A4 (ju h) ∎⟩;have l1:∀{v y:Str},v.length<=10->eu y->v.length+(D6 "" [y]).length<=1000:=λ{v y} h h'=>by
  have:=ju h';rw[tf];omega
 cases f with
 |any=>exact gen "any" "?" [] rfl (by rw[vf];decide +kernel) ∅ (by simp) s0 ∅ rfl
 |word=>exact gen "word" "$" [] rfl (by rw[vf];decide +kernel) ∅ (by simp) s0 ∅ rfl
 |num=>exact gen "number" "#" [] rfl (by rw[vf];decide +kernel) ∅ (by simp) s0 ∅ rfl
 |bind y=>exact gen "bind" "?" [y] rfl (by rw[tf];rfl) ∅ (by simp) (s1 ok) (l1 ∅ ok) rfl
 |as y=>exact gen "as" "=" [y] rfl (by rw[tf];rfl) ∅ (by simp) (s1 ok) (l1 ∅ ok) rfl
 |nx y=>exact gen "next" "+" [y] rfl (by rw[tf];rfl) ∅ (by simp) (s1 ok) (l1 ∅ ok) rfl
 |isv d=>
  refine aA (Lp (a:=.str "is") (r:=[d]) rfl ∅ ?_);exact aY (aZ (gw (a:=.str "is") (b:=d) (r:=[]) rfl (rQ (nq ok) k)))
abbrev AZ:aL:=aq ⇑1008 ⇑1005
abbrev Nj:DT:=eQ (cT (w2 (w2 ↥0 ⇑0 a8) ⇑"same" cf)) (cu ↥0 (cg ⇑1) (cg ⇑3)) (w2 ↥0 ⇑1 a8)
theorem WM:bS rL qS ["_law_act_here","_law_words","_law_fields"]:=λws n Q h=>by
 obtain⟨a,rfl,ok,oa,k⟩:=h;show qS [↑a.d,af,af] n _;have f4:=ok.1.1;have sh:=yx ok oa;have hl:((a.hw.s::a.fs.map Fe.wd).map A7).length < 1000000:=by rw[Ab,Am,Ab];omega
 have fin:∀(K:DEnds)(L:List Aa)(x:Option SV),K.rt=Q->L=(a.hw.s::(a.fs.map Fe.wd++a.tw)).map A7->bW 1 ⇑1011 [↑a.d,ae (.own L),x] n K:=λK L x eK e=>by
  rw[<-tV]at e;subst e;refine ic rfl ?_;ac_nf;refine aY ?_;rw[eK];exact mP (ys:=ij a) (λQ q=>au rfl q) sh k
 have tailP:∀(x:Option SV),AZ [↑a.d,ae (.own ((a.hw.s::a.fs.map Fe.wd).map A7)),x] n {nx:=λ_ n=>Q (.d .none) n,rt:=Q}:=λx=>by
  have bare:∀(s:Str)(r:List Aa),a.d=.tuple (.str s::r)->bG (.str s) [.str "look",.str "same",.str "go"]=ai->decide (s="lay")=ai->a.tw=[]->AZ [↑a.d,ae (.own ((a.hw.s::a.fs.map Fe.wd).map A7)),x] n {nx:=λ_ n=>Q (.d .none) n,rt:=Q}:=λs r e1 e2 e3 e4=>by
   rw[e1]at fin ⊢;refine aA (aU (λQ q=>vd rfl e2 q) ?_);ac_rfl;refine aA (aU (λQ q=>eU (a:=ai) (b:=ah) (lH rfl e3) (λz=>nomatch z) q) ?_);ac_rfl;exact fin _ _ _ rfl (by rw[e4,A5])
  have lead:∀(s:Str)(r:List Aa)(b:Nat),a.d=.tuple (.str s::r)->bG (.str s) [.str "look",.str "same",.str "go"]=ah->decide (s="lay")=ai->cF (.str s::r) (-1)=ae (.int (b:Nat))->a.to=ae b->a.tw=[cw b]->AZ [↑a.d,ae (.own ((a.hw.s::a.fs.map Fe.wd).map A7)),x] n {nx:=λ_ n=>Q (.d .none) n,rt:=Q}:=λs r b e1 e2 e3 e4 e5 e6=>by
   rw[e1]at fin ⊢;refine aA (bo (λQ q=>vd rfl e2 q) ?_);refine iD (x:=.str (cw b)) (m:=n) rfl (λQ q=>av (aJ (aZ (To rfl e4 (mY (oa b e5) (lu (A4 (Nat.add_le_add (show Str.length ">"<=10 by decide +kernel) (nG (oa b e5))) ∎) q)))))) hl ?_;ac_nf;refine aA (aU (λQ q=>eU (a:=ai) (b:=ah) (lH rfl e3) (λz=>nomatch z) q) ?_);ac_rfl;exact fin _ _ _ rfl (by rw[e6,A3,A3,Bc];rfl)
  cases a with
  |take fs=>exact bare "take" [bJ fs] rfl ∅ ∅ rfl
  |read fs=>exact bare "read" [bJ fs] rfl ∅ ∅ rfl
  |look fs b=>exact lead "look" [bJ fs,.int b] b rfl ∅ ∅ rfl rfl rfl
  |same f g b=>exact lead "same" [f.d,g.d,.int b] b rfl ∅ ∅ rfl rfl rfl
  |go b=>exact lead "go" [.int b] b rfl ∅ ∅ rfl rfl rfl
  |lay fs age=>
   refine aA (aU (λQ q=>vd (s:="lay") (r:=[bJ fs,age]) rfl ∅ q) ?_);ac_rfl;rcases ok.2.2.1 with rfl|⟨i,rfl,h1,h2⟩
   ·refine aA (aU (λQ q=>eU (a:=ah) (b:=ai) (lH (s:="lay") (r:=[bJ fs,.none]) rfl ∅) (λ_ Q q=>aC (k:=ai) (λQ q=>av (zZ (a:=.str "lay") (b:=bJ fs) (r:=[]) rfl (aJ q))) q) q) ?_);ac_rfl;exact fin _ _ _ rfl (by show _=((Ac.lay fs .none).hw.s::(fs.map Fe.wd++[])).map _;rw[A5];rfl)
   ·obtain⟨j,rfl,hj⟩:=nR h1 h2;refine aA (bo (λQ q=>eU (a:=ah) (b:=ah) (lH (s:="lay") (r:=[bJ fs,.int (j:Nat)]) rfl ∅) (λ_ Q q=>aC (k:=ah) (λQ q=>av (zZ (a:=.str "lay") (b:=bJ fs) (r:=[]) rfl (aJ q))) q) q) ?_);refine iD (x:=.str (("@":Str)++sK j)) (m:=n) rfl (λQ q=>av (aJ (aZ (zZ (a:=.str "lay") (b:=bJ fs) (r:=[]) rfl (mY hj (lu (uB hj) q)))))) hl ?_;ac_nf;exact fin _ _ _ rfl (by rw[A3,A3,Bc];rfl)
 have fields:∀(s:Str)(r:List Aa),a.d=.tuple (.str s::r)->a.hw.s=s->decide (s="go")=ai->(∀Q:DQ,Q (.d (bJ a.fs)) n->Nj [↑a.d,ae (.own [.str s]),af] n Q)->
   qS [↑a.d,af,af] n {nx:=λ_ n=>Q (.d .none) n,rt:=Q}:=λs r e1 e2 e3 e4=>by
  have t:=tailP (↑(bJ a.fs));rw[e1]at t e4 ⊢;refine aA (ko (ke (x:=.str s) (λQ q=>lZ rfl q) ?_));ac_nf;refine aA (dz (x:=bJ a.fs) e4 ?_);ac_nf;refine aA (bo (λQ q=>aC (k:=ah) (λQ q=>av (lZ rfl (aJ (FC (by rw[e3];exact q))))) q) ?_);refine ko (Ji (xs:=[.str s]) (ys:=a.fs.map λf:Fe=>A7 f.wd) rfl (λQ q=>bf (gY (ds:=a.fs.map Fe.d) (λQ q=>au rfl q) (mH Fe.d (λf=>.str f.wd) a.fs [] af n (λf hf n Q' q=>aW (au rfl ⟨f,rfl,ok.1.2 f hf,q⟩)) (by rw[Bz];exact q)))) (by rw[Ab,As];omega) ?_);ac_nf;have e0:[A7 s]++(a.fs.map λf=>A7 f.wd)=(a.hw.s::a.fs.map Fe.wd).map A7:=by rw[e2];simp[Ck]
  rw[e0];exact t
 have plain:∀(s:Str)(fs:List Fe)(r:List Aa),a.d=.tuple (.str s::bJ fs::r)->a.fs=fs->a.hw.s=s->decide (s="go")=ai->decide (s="same")=ai->qS [↑a.d,af,af] n {nx:=λ_ n=>Q (.d .none) n,rt:=Q}:=λs fs r e1 e5 e2 e3 e4=>fields s (bJ fs::r) e1 e2 e3 λQ q=>by
  rw[e1];rw[e5]at q;exact(show eQ _ _ _ _ _ _ from lH (r:=bJ fs::r) rfl e4 _ (yA (a:=.str s) (b:=bJ fs) (r:=r) rfl q))
 cases a with
 |lay fs age=>exact plain "lay" fs [age] rfl rfl rfl ∅ ∅
 |take fs=>exact plain "take" fs [] rfl rfl rfl ∅ ∅
 |read fs=>exact plain "read" fs [] rfl rfl rfl ∅ ∅
 |look fs b=>exact plain "look" fs [.int b] rfl rfl rfl ∅ ∅
 |same f g b=>
  refine fields "same" [f.d,g.d,.int b] rfl rfl ∅ λQ q=>?_;refine(show eQ _ _ _ _ _ _ from lH (s:="same") (r:=[f.d,g.d,.int b]) rfl (show decide (("same":Str)="same")=ah by decide +kernel) _ ?_);grind;unfold cu;exact au rfl q
 |go b=>
  have t:=tailP (↑(.int (b:Nat)));refine aA (ko (ke (x:=.str "go") (λQ q=>lZ (a:=.str "go") (r:=[.int b]) rfl q) ?_));ac_nf;refine aA (dz (x:=.int (b:Nat)) (λQ q=>(show eQ _ _ _ _ _ _ from lH (s:="go") (r:=[.int b]) rfl (show decide (("go":Str)="same")=ai by decide +kernel) _ (yA (a:=.str "go") (b:=.int b) (r:=[]) rfl q))) ?_);ac_nf;refine aA (aU (λQ q=>aC (k:=ai) (λQ q=>av (lZ (a:=.str "go") (r:=[.int b]) rfl (aJ (FC (by rw[show decide (("go":Str)="go")=ah by decide +kernel];exact q))))) q) ?_);ac_rfl;exact t
theorem FH(ok:PlO Ps qs):(bK qs Ps).length<=300:=by
 have:=rM λP hP=>(ok.po P hP).1;have:=ok.pl;have:=ok.ql;unfold bK;rw[Ah,Ab];omega
theorem CL(po:pO P)(wf:∀b∈P,eS b):∀(re:List Bl)(L:List (List Str))(x6 x7:Option SV),(∀b∈re,b∈P)->L.length+9*re.length<=600->(∀(x6 x7:Option SV),K.nx [x0,ae (.own (bU (L++re.flatMap gF))),x2,x3,x4,x5,x6,x7] n)->
  c6 (cR 2 (bP (aF 6) (bP (aF 7) cq))) (aq ⇑1017 (bD 1 (gy (fL 1) (aV (bB [af] (bN ↥7) (aF 0) aQ (az rL (ao ↥0 ak))))))) K (re.map bR) [x0,ae (.own (bU L)),x2,x3,x4,x5,x6,x7] n
 |[],L,x6,x7,_,_,k=>by
  have:=k x6 x7;rw[List.flatMap_nil,A5]at this;exact this
 |b::re,L,x6,x7,hb,hl,k=>by
  rw[Am]at hl;have hb1:=hb b Ae;have ob:=wf b hb1;have pb:=po.2.2 b hb1;have sh:=ve ob;have ob1:=ob.1;have ob3:=ob.2.2.1;refine An rfl ?_;dsimp only[bP,cq,aF,Aw];refine aA (iD (x:=.str (dQ (Hw.block.s::b.1))) (m:=n) rfl (λQ q=>mP (ys:=Hw.block.s::b.1) (λQ q=>av (bf (ke (x:=.str "block") (λQ q=>aJ q) (aZ (au rfl (X1 (ds:=b.1.map .str) (rg (by rw[Ab,As];omega) q))))))) sh q) (by rw[j5];omega) ?_);ac_nf;refine ko (Ji (xs:=bU L++[.str (dQ (Hw.block.s::b.1))]) (ys:=b.2.map λa:Ac=>A7 (dQ (ij a))) rfl (λQ q=>bf (gY (ds:=b.2.map Ac.d) (λQ q=>au rfl q) (mH Ac.d (λa=>.str (dQ (ij a))) b.2 [] af n (λa ha n Q' q=>aW (au rfl ⟨a,rfl,(pb.2.2 a ha).1,(pb.2.2 a ha).2,q⟩)) (by rw[Bz];exact q)))) (by rw[Ah,j5,Ab,As];omega) ?_);ac_nf;have hbl:(gF b).length=b.2.length+1:=by unfold gF;rw[Am,Ab]
  rw[A9,List.singleton_append,Lq,<-qp];refine CL po wf re (L++gF b) _ _ (λx hx=>hb x (Af _ hx)) (by rw[Ah,hbl];omega) λy6 y7=>?_;have:=k y6 y7;rw[Fo,<-A9]at this;exact this
theorem UR:bS wO Hl ["_law_plan_here","_law_found","_law_row","_law_age_here","_law_words","_law_program_here","_law_wants","_law_acts"]:=λws n Q h=>by
 obtain⟨ps,ns,rfl,ok,k⟩:=h;show Hl [↑(.tuple [.tuple (ps.map bE),.tuple (ns.map bM)]),af,af,af,af,af,af,af] n _;have hql:=ok.ql;refine aA (mq ?_);ac_nf;refine aA (oQ (ds:=ns.map bM) (λQ q=>yA (a:=.tuple (ps.map bE)) (b:=.tuple (ns.map bM)) (r:=[]) rfl q) ?_);refine eW (λds δ n'=>∃(dn re:List (List Aa×Aa))(x2 x3 x4:Option SV),ds=re.map bM/\dn++re=ns/\n'=n/\δ=[↑(.tuple [.tuple (ps.map bE),.tuple (ns.map bM)]),ae (.own (bU (dn.map ff))),x2,x3,x4,af,af,af]) (λδ n' I=>?_) (λd r δ n' N I kN=>?_) _ _ _ ⟨[],ns,af,af,af,rfl,rfl,rfl,rfl⟩
 ·obtain⟨dn,re,x2,x3,x4,e,hdn,rfl,rfl⟩:=I;cases C6.mp e.symm;rw[A5]at hdn;subst hdn;dsimp only;refine aA (oQ (ds:=ps.map bE) (λQ q=>lZ (a:=.tuple (ps.map bE)) (r:=[.tuple (dn.map bM)]) rfl q) ?_);refine eW (λds δ n''=>∃(dm re:List (List Bl))(x5 x6 x7:Option SV),ds=re.map bE/\dm++re=ps/\n''=n'/\δ=[↑(.tuple [.tuple (ps.map bE),.tuple (dn.map bM)]),ae (.own (bU (bK dn dm))),x2,x3,x4,x5,x6,x7]) (λδ n'' I=>?_) (λd r δ n'' N I kN=>?_) _ _ _ ⟨[],ps,af,af,af,rfl,rfl,rfl,by unfold bK;rw[List.flatMap_nil,A5]⟩
  ·obtain⟨dm,re,x5,x6,x7,e,hdm,rfl,rfl⟩:=I;cases C6.mp e.symm;rw[A5]at hdm;subst hdm;dsimp only;refine ic rfl ?_;ac_nf;exact aY (au rfl k)
  ·obtain⟨dm,re,x5,x6,x7,e,hdm,rfl,rfl⟩:=I;obtain⟨P,re,rfl,rfl,rfl⟩:=Da.mp e.symm;have hP:=ok.po P (by rw[<-hdm];exact Az _ Ae);have hPl:=hP.1.2.1;have hpd:(bK dn dm).length<=300:=by
    have h1:=rM (Ps:=dm) λx hx=>(ok.po x (by rw[<-hdm];exact Bx _ hx)).1;have h2:dm.length<=5:=by have:=ok.pl;rw[<-hdm,Ah]at this;omega
    unfold bK;rw[Ah,Ab];omega
   nofun;refine aA (iD (x:=.str "hand") (m:=n'') rfl (λQ q=>aJ q) (by rw[j5];omega) ?_);ac_nf;have e0:bU (bK dn dm)++[.str "hand"]=bU (bK dn dm++[[Hw.hand.s]]):=by rw[qp];rfl
   rw[e0];refine oQ (ds:=P.map bR) (λQ q=>au rfl q) ?_;refine CL hP.1 hP.2.2 P (bK dn dm++[[Hw.hand.s]]) _ _ (λb hb=>hb) (by rw[Ah,As];omega) λy6 y7=>?_;refine kN _ _ ⟨dm++[P],re,↑(bE P),y6,y7,rfl,by rw[A9];exact hdm,rfl,?_⟩;rw[Js,A9];rfl
 ·obtain⟨dn,re,x2,x3,x4,e,hdn,rfl,rfl⟩:=I;obtain⟨⟨row,age⟩,re,rfl,rfl,rfl⟩:=Da.mp e.symm;have ox:=ok.qo (row,age) (by rw[<-hdn];exact Az _ Ae);have sh:=uV ox;obtain⟨h0,h1,h2,h3⟩:=ox;dsimp only at h0 h1 h2 h3;have hdl:dn.length<=12:=by rw[<-hdn,Ah]at hql;omega
  refine An rfl ?_;dsimp only[bP,cq,aF,Aw];refine aA (ko (IK (xs:=[.str "note"]) (ys:=row.map λd=>A7 (b6 d)) (λQ q=>bf (ke (λQ q=>aJ q) q)) (λQ q=>bf (gY (ds:=row) (λQ q=>au rfl q) (kI (λd=>ck d=ah) (λd=>.str (b6 d)) (λd n Q' hd q=>aZ (au rfl (rQ hd q))) _ [] af n' h2 (by rw[Bz];exact q)))) (by rw[Ab,As];omega) ?_));ac_nf;have fin:∀(K:DEnds)(W:List Aa),(∀δ n,N δ n->K.nx δ n)->W=(ff (row,age)).map A7->bW 4 (br 1 (fY ⇑" " ↥4)) [↑(.tuple [.tuple (ps.map bE),.tuple (ns.map bM)]),ae (.own (bU (dn.map ff))),↑(.tuple row),↑age,ae (.own W),af,af,af] n' K:=λK W hK e=>by
   subst e;refine ic rfl ?_;ac_nf;refine iD (x:=.str (dQ (ff (row,age)))) (m:=n') rfl (λQ q=>mP (ys:=ff (row,age)) (λQ q=>au rfl q) sh q) (by rw[j5,Ab];omega) (hK _ _ ?_);refine kN _ _ ⟨dn++[(row,age)],re,↑(.tuple row),↑age,↑(.list ((ff (row,age)).map A7)),rfl,by rw[A9];exact hdn,rfl,?_⟩;rw[Bc,qp];rfl
  rcases h3 with rfl|⟨i,rfl,i1,i2⟩
  ·refine aA (aU (λQ q=>aC (k:=ai) (λQ q=>av (au rfl (aJ q))) q) ?_);ac_rfl;exact fin _ _ (λ_ _ z=>z) (by rw[<-AN];exact(A5 _).symm)
  ·obtain⟨j,rfl,hj⟩:=nR i1 i2;refine aA (bo (λQ q=>aC (k:=ah) (λQ q=>av (au rfl (aJ q))) q) ?_);refine iD (x:=.str (("@":Str)++sK j)) (m:=n') rfl (λQ q=>av (aJ (aZ (au rfl (mY hj (lu (uB hj) q)))))) (by rw[Ah,Ab,As];omega) ?_;ac_nf;exact fin _ _ (λ_ _ z=>z) (by rw[<-AN];rfl)
theorem CU(h:i.length+j.length<=1000)(k:Q ‹(i++j)› n):iQ ‹i› ‹j› n Q:=by
 cases i with
 |nil=>exact k
 |cons a r=>exact An (.inl (λz=>nomatch z)) ⟨oR h,k⟩
theorem Qs(h:x∈bI ds a b):x∈ds:=List.mem_of_mem_drop (Gw h)
theorem Xe(ds:List Aa)(j:Nat):(bI ds af (ae (j:Int))).length<=min j ds.length:=by
 unfold bI;rw[HT.sIx_nat,HT.sIx_none,E1];omega
theorem Pj(ds:List Aa)(j:Nat):(bI ds (ae (j:Int)) af).length<=ds.length-j:=by
 unfold bI;rw[HT.sIx_nat,HT.sIx_none,E1];omega
theorem UB(ds:List Aa)(j:Nat):(bI ds (ae ((j:Int)+1)) af).length<=ds.length-(j+1):=by
 rw[show((j:Int)+1)=((j+1:Nat):Int) by omega];exact Pj ds (j+1)
section
variable{δ:Sl}{n:Int}{Q:DQ}{ds:List Aa}{j:Int}
theorem uL(e1:δ[1]?=ae (↑(.tuple ds)))(e2:δ[2]?=ae (↑(.int j)))(k:Q ‹(bI ds af (ae j))› n):cu ↥1 cJ (cg ↥2) δ n Q:=by
 unfold cu cJ cg;exact au e1 (au e2 k)
theorem LK(e1:δ[1]?=ae (↑(.tuple ds)))(e2:δ[2]?=ae (↑(.int j)))(k:Q ‹(bI ds (ae (j+1)) af)› n):cu ↥1 (cg (w2 ↥2 ⇑1 (dN λi j=>.int (i+j)))) cJ δ n Q:=by
 unfold cu cJ cg;exact au e1 (av (au e2 (aJ k)))
theorem V2{Q:List Aa->Int->Prop}(k:a δ n λx n1=>b δ n1 λy n2=>c δ n2 λz n3=>d δ n3 λu n4=>match dO [x,y,z,u]with
  |some ds=>ds.length<=1000/\Q ds n4
  |none=>False):aR (ao a (ao b (ao c (ao d ak)))) δ n Q:=k
theorem XC(k:w δ n λx n1=>match dO [x]with
  |some ds=>ds.length<=1000/\Q ‹ds› n1
  |none=>False):aB (ao w ak) δ n Q:=k
end
theorem Pn.th(h:Pn k d):Th 12 k d:=by
 induction h with
 |non=>exact .non
 |int i h1 h2=>exact .int i (by unfold jM;omega) (by unfold jM;omega)
 |str x h1 h2=>exact .str x h1 h2
 |tuple h1 _ ih=>exact .tuple h1 ih
theorem QA:∀d ws n Q,kx d ws n Q->ws.length=2:=λt ws n Q h=>by
 cases t with
 |zero=>exact h.elim
 |succ t=>obtain⟨_,_,rfl,_⟩:=h;rfl
def oddL:List Aa:=[.str "a",.str "n",.str "nm",.str "go",.str "as",.str "bind",.str "take",.str "read",.int 7,.none,.tuple [.str "is",.int 0]]
theorem Oj(h:d∈oddL):Th 12 (k+1) d:=by
 have:fV 12 1 d=ah:=Be.mp (show oddL.all (fV 12 1)=ah by decide +kernel) d h;exact(U9 this).mono (Ay _) ⋯
abbrev vo:aL:=aq (aX (cT (bq "int" ↥1)) (aw (w2 (aV (aR (ao (w2 ↥1 ⇑1 (dN λi j=>.int (i+j))) (ao ⇑0 (ao ⇑99 (ao ⇑20 ak)))))) ⇑1010 aD)) aG) ⇑1003
theorem rp{k:Nat}(hn:n+(k:Int)+1 < 2 ^ 39)(hi:∀i:Int,d=.int i->0<=i/\i<=100)(hb:∀b,d≠.bool b)(q:∀(d':Aa) (n':Int),Th 12 (k+1) d'->n'<=n+(k:Int)+1->Q (.d d') n'):vo [ae (.w .tp),↑d,x] n {nx:=λ_ n=>Q (.d .none) n,rt:=Q}:=by
 by_cases h:fq "int" d=ah
 ·obtain⟨i,rfl⟩:∃i,d=.int i:=by
   cases d with
   |int i=>exact⟨i,rfl⟩
   |bool b=>exact absurd rfl (hb b)
   |_=>cases h
  obtain⟨i0,i1⟩:=hi i rfl;refine aA (bo (λQ q=>aC (k:=ah) (λQ q=>pG (d:=.int i) (λQ q=>au rfl q) Q q) q) (aY (av (bf (V2 ?_)))));refine av (au rfl (aJ (fM (aJ (aJ (aJ (An (show 4<=1000 by decide) ?_)))))));refine iV (m:=4) rfl ⋯ ∎ ∎ λr r0 r1=>oM (ds:=[.int (i+1),.int 0,.int 99,.int 20]) r0 r1 λf hf=>q f _ ?_ ⋯;simp only[Aq,Av,or_false]at hf;rcases hf with rfl|rfl|rfl|rfl<;>exact .int _ (by unfold jM;omega) (by unfold jM;omega)
 ·refine aA (aU (λQ q=>aC (k:=ai) (λQ q=>pG (d:=d) (λQ q=>au rfl q) Q (by rw[Fq.mpr h];exact q)) q) ?_);ac_rfl;refine aY (av (bf (An ∎ (An ∎ ?_))));dsimp only;refine iV (m:=11) rfl ⋯ ∎ ∎ λr r0 r1=>?_;refine oM (ds:=oddL) r0 r1 λf hf=>?_;exact q f _ (Oj hf) ⋯
theorem MK:∀d ws n Q,kx (d+1) ws n Q->HG (kx d) (cz ["_law_tape_here","_law_thing","_law_at"] ws) n {nx:=λ_ n=>Q (.d .none) n,rt:=Q}:=λt ws n Q h=>by
 obtain⟨d,k,rfl,hP,hk,hn,q⟩:=h;show HG (kx t) [ae (.w .tp),↑d,af] n _;cases hP with
 |non=>
  refine aA (aU (λQ q=>eU (a:=ai) (b:=ah) (λQ q=>aC (k:=ai) (λQ q=>pG (d:=.none) (λQ q=>au rfl q) Q q) q) (λz=>nomatch z) q) ?_);exact(rp (d:=.none) hn (λ_ e=>nomatch e) (λ_ e=>nomatch e) q)
 |int i h1 h2=>
  refine aA (aU (λQ q=>eU (a:=ai) (b:=ah) (λQ q=>aC (k:=ai) (λQ q=>pG (d:=.int i) (λQ q=>au rfl q) Q q) q) (λz=>nomatch z) q) ?_);exact(rp (d:=.int i) hn (λ_ e=>by cases e;exact⟨h1,h2⟩) (λ_ e=>nomatch e) q)
 |str x h1 h2=>
  refine aA (aU (λQ q=>eU (a:=ai) (b:=ah) (λQ q=>aC (k:=ai) (λQ q=>pG (d:=.str x) (λQ q=>au rfl q) Q q) q) (λz=>nomatch z) q) ?_);exact(rp (d:=.str x) hn (λ_ e=>nomatch e) (λ_ e=>nomatch e) q)
 |@tuple k ds hl hm=>
  rcases ds with _|⟨a,r⟩
  ·refine aA (aU (λQ q=>eU (a:=ah) (b:=ai) (λQ q=>aC (λQ q=>lj rfl q) q) (λ_ Q q=>aC (λQ q=>av (au rfl (An (Bf _) q))) q) q) ?_);exact(rp (d:=.tuple []) hn (λ_ e=>nomatch e) (λ_ e=>nomatch e) q)
  ·generalize hds:a::r=ds at hm hl;have l1:1<=ds.length:=by rw[<-hds];simp
   refine aA (bo (λQ q=>eU (a:=ah) (b:=ah) (λQ q=>aC (λQ q=>lj rfl q) q) (λ_ Q q=>aC (k:=ah) (λQ q=>av (au rfl (An (Bf _) (by subst hds;exact q)))) q) q) ?_);refine aA (k8 (m:=(ds.length:Int)) rfl (λQ q=>aZ (au rfl q)) ⋯ ⋯ ⋯ λr r0 r1=>?_);obtain⟨y,hy,ym⟩:=yo r0 r1;obtain⟨j,rfl⟩:∃j:Nat,r=j:=⟨r.toNat,by omega⟩;ac_nf;have t1:=Xe ds j;have t3:=UB ds j;refine aY (av (av (uL rfl rfl (XC (dZ (au rfl (av (au rfl (au rfl ?_)))))))));show(match cF ds ((j:Nat):Int)with|some d=>_|none=>False);rw[hy];obtain⟨t,rfl⟩:∃t',t=t'+1:=⟨t-1,by omega⟩;refine⟨y,k,rfl,hm y ym,by omega,by omega,λd' n' hd hn'=>?_⟩;refine An (show 1<=1000 by decide) (CU (by simp only[As];omega) (LK rfl rfl (CU (by rw[Ah,As];omega) ?_)));refine q _ _ (.tuple (by rw[Ah,Ah,As];omega) λx hx=>?_) ⋯;have old:∀{a b:Option Int},x∈bI ds a b->Th 12 (k+1) x:=λz=>(hm x (Qs z)).th.mono (Ay _) ⋯;rcases Ax.mp hx with z|z
   ·rcases Ax.mp z with z|z
    ·exact old z
    ·rw[Au.mp z];exact hd
   ·exact old z
def HB(k:Nat)(d:Aa):Prop:=Gh d=ah/\Gg d<=k/\PyData.intsShort 13 d=ah/\Gv d=ah
theorem xD:∀{ds:List Aa},(∀d∈ds,HB k d)->PyData.canLayAll0 ds=ah/\PyData.depthAll ds<=k/\PyData.intsShortAll 13 ds=ah/\PyData.showableAll ds=ah
 |[],_=>⟨rfl,Bf _,rfl,rfl⟩
 |d::r,h=>by
  obtain⟨a1,a2,a3,a4⟩:=xD λx hx=>h x (Af _ hx);obtain⟨b1,b2,b3,b4⟩:=h d Ae;refine⟨?_,?_,?_,?_⟩
  ·rw[PyData.canLayAll0,a1,b1];rfl
  ·rw[PyData.depthAll];omega
  ·rw[PyData.intsShortAll,a3,b3];rfl
  ·rw[PyData.showableAll,a4,b4];rfl
theorem U8:∀i:Nat,i < 101->PyData.intsShort 13 (.int (i:Nat))=ah/\Gv (.int (i:Nat))=ah:=by decide +kernel
theorem Pn.sm(h:Pn k d):HB k d:=by
 induction h with
 |non=>exact⟨rfl,Bf _,rfl,rfl⟩
 |int i h1 h2=>
  have:=U8 i.toNat ⋯;rw[Int.toNat_of_nonneg h1]at this;exact⟨rfl,Bf _,this.1,this.2⟩
 |str x h1 h2=>exact⟨h2,Bf _,rfl,rfl⟩
 |tuple h1 _ ih=>
  obtain⟨a1,a2,a3,a4⟩:=xD ih;exact⟨by rw[Gh];exact a1,by rw[Gg];omega,by rw[PyData.intsShort];exact a3,by rw[Gv];exact a4⟩
theorem yF:∀{ds:List Aa},(∀d∈ds,Bp d d=ah)->D0 ds ds=ah
 |[],_=>rfl
 |d::r,h=>by rw[D0,h d Ae,yF λx hx=>h x (Af _ hx)];rfl
theorem Pn.refl(h:Pn k d):Bp d d=ah:=by
 induction h with
 |non=>rfl
 |int i _ _=>rw[Bp];exact beq_self_eq_true i
 |str x _ _=>rw[Bp];exact beq_self_eq_true x
 |tuple _ _ ih=>rw[Bp];exact yF ih
theorem Jg:∀{ds es:List Aa},(∀d∈ds,∀e,(∃j,Pn j e)->Bp d e=ah->d=e)->(∀e∈es,∃j,Pn j e)->D0 ds es=ah->ds=es
 |[],[],_,_,_=>rfl
 |[],_::_,_,_,h=>by rw[D0]at h;cases h
 |_::_,[],_,_,h=>by rw[D0]at h;cases h
 |d::r,e::s,h1,h2,h=>by
  rw[D0,Ak]at h;rw[h1 d Ae e (h2 e Ae) h.1,Jg (λx hx=>h1 x (Af _ hx)) (λx hx=>h2 x (Af _ hx)) h.2]
theorem Pn.inj(h:Pn k d):∀e,(∃j,Pn j e)->Bp d e=ah->d=e:=by
 induction h with
 |non=>intro e ⟨j,he⟩ q;cases he<;>first|rfl|(rw[Bp]at q;cases q)
 |int i _ _=>intro e ⟨j,he⟩ q;cases he<;>first|(rw[Bp]at q;cases q;done)|(rw[Bp]at q;rw[eq_of_beq q])
 |str x _ _=>intro e ⟨j,he⟩ q;cases he<;>first|(rw[Bp]at q;cases q;done)|(rw[Bp]at q;rw[eq_of_beq q])
 |@tuple k ds _ _ ih=>
  intro e ⟨j,he⟩ q;cases he with
  |tuple _ h2=>
   rw[Bp]at q;rw[Jg ih (λx hx=>⟨_,h2 x hx⟩) q]
  |_=>rw[Bp]at q;cases q
def Pw(w k:Nat)(d:Aa):Prop:=Pn k d/\F6 d<=w
theorem Jb:∀{ds:List Aa},(∀d∈ds,F6 d<=w)->ds.length<=m->PyData.weightAll ds<=m*(w+1)
 |[],_,_=>Bf _
 |d::r,h,hl=>by
  obtain⟨m,rfl⟩:∃m',m=m'+1:=⟨m-1,by rw[Am]at hl;omega⟩;have h1:=Jb (m:=m) (λx hx=>h x (Af _ hx)) (by rw[Am]at hl;omega);have h2:=h d Ae;rw[PyData.weightAll,Nat.succ_mul];omega
theorem gi(hl:ds.length<=m)(hm:m<=12)(h:∀d∈ds,Pw w k d):Pw (m*(w+1)) (k+1) (.tuple ds):=⟨.tuple (A4 hl hm) λd hd=>(h d hd).1,by rw[F6];exact Jb (λd hd=>(h d hd).2) hl⟩
theorem Pn.up(h:Pn k d):k<=j->Pn j d:=by
 intro hk
 induction h generalizing j with
 |non=>exact .non
 |int i h1 h2=>exact .int i h1 h2
 |str x h1 h2=>exact .str x h1 h2
 |tuple h1 _ ih=>
  obtain⟨j,rfl⟩:∃i,j=i+1:=⟨j-1,by omega⟩;exact .tuple h1 λd hd=>ih d hd ⋯
theorem Pw.up(h:Pw w k d)(h1:w<=w')(h2:k<=j):Pw w' j d:=⟨h.1.up h2,A4 h.2 h1⟩
theorem rz(h1:x.length<=8)(h2:Bw x=ah):Pw 8 k (.str x):=⟨.str x (A4 h1 ∎) h2,by rw[F6];exact h1⟩
theorem Tu:∀i:Nat,i < 101->F6 (.int (i:Nat))<=8:=by decide +kernel
theorem zN(h:i < 101):Pw 8 k (.int (i:Nat)):=⟨.int _ ⋯ ⋯,Tu i h⟩
theorem Pu:Pw 8 k .none:=⟨.non,by rw[F6];decide⟩
theorem PH(h:ie c=ah):c < 1114112:=by
 unfold ie at h;rw[Ak]at h;have h2:=h.2;rw[Bool.not_eq_true',decide_eq_false_iff_not]at h2;apply Classical.byContradiction;intro hc;apply h2;show([122]:List Nat) < [c];exact List.Lex.rel ⋯
theorem KW(h:aO m (.str x)=ah):Bw x=ah:=by
 have h:(decide ((1:Int)<=(x.length:Int))&&(decide ((x.length:Int)<=m)&&x.cps.toList.all ie))=ah:=h;rw[Ak,Ak]at h;unfold Bw;rw[<-Array.all_toList,Be];exact λc hc=>decide_eq_true (PH (Be.mp h.2.2 c hc))
theorem jP(h:eu x):Pw 8 k (.str x):=rz (A4 (ju h) ∎) h.2
theorem qO(h:ck d=ah):Pw 8 k d:=by
 rcases l6 h with⟨x,rfl,hx⟩|⟨j,rfl,hj⟩
 ·have:=zV hx;exact rz ⋯ (KW hx)
 ·exact zN ⋯
theorem Ll(h:iO d):Pw 8 k d:=by
 rcases h with rfl|⟨i,rfl,h1,h2⟩
 ·exact Pu
 ·obtain⟨j,rfl,hj⟩:=nR h1 h2;exact zN ⋯
theorem d4{P:Aa->Prop}(ha:P a):∀d∈[a],P d:=λd hd=>by rw[Au.mp hd];exact ha
theorem dP{P:Aa->Prop}(ha:P a)(hr:∀d∈r,P d):∀d∈a::r,P d:=λd hd=>(Aq.mp hd).elim (λe=>e▸ha) (hr d)
theorem lI{f:Fe}(h:f.ok):Pw 18 1 f.d:=by
 have key:∀s∈(["any","word","number","is","bind","as","next"]:List Str),s.length<=8/\Bw s=ah:=by decide +kernel
 have hd:=key f.hd (by cases f<;>simp[Fe.hd]);refine gi (m:=2) (w:=8) (by cases f<;>exact Cn rfl) ∎ (dP (rz hd.1 hd.2) ?_);cases f with
 |any=>exact λd hd=>by simp[Fe.tl]at hd
 |word=>exact λd hd=>by simp[Fe.tl]at hd
 |num=>exact λd hd=>by simp[Fe.tl]at hd
 |isv v=>exact d4 (qO (nq h))
 |bind k=>exact d4 (jP h)
 |as k=>exact d4 (jP h)
 |nx k=>exact d4 (jP h)
theorem uj(h:cQ fs):Pw 76 2 (bJ fs):=gi (m:=4) (w:=18) (by rw[Ab];exact h.1) ∎ λd hd=>by
 obtain⟨f,hf,rfl⟩:=Bi.mp hd;exact lI (h.2 f hf)
theorem lB(h:Hw):h.s.length<=8/\Bw h.s=ah:=by cases h<;>decide +kernel
theorem xC(h:gC a)(ht:toS a):Pw 308 3 a.d:=by
 have s:Pw 76 2 (.str a.hw.s):=(rz (k:=2) (lB a.hw).1 (lB a.hw).2).up ∎ ∎;have n:∀t,a.to=ae t->Pw 76 2 (.int (t:Nat)):=λt e=>Pw.up (zN (k:=2) (by have:=ht t e;omega)) ∎ ∎;cases a with
 |lay fs age=>exact gi (m:=4) (w:=76) (by simp) ∎ (dP s (dP (uj h.1) (d4 ((Ll (k:=2) h.2.2.1).up ∎ ∎))))
 |take fs=>exact gi (m:=4) (w:=76) (by simp) ∎ (dP s (d4 (uj h.1)))
 |read fs=>exact gi (m:=4) (w:=76) (by simp) ∎ (dP s (d4 (uj h.1)))
 |look fs t=>exact gi (m:=4) (w:=76) (by simp) ∎ (dP s (dP (uj h.1) (d4 (n t rfl))))
 |same f g t=>exact gi (m:=4) (w:=76) (by simp) ∎ (dP s (dP ((lI (h.1.2 f (by simp[Ac.fs]))).up ∎ ∎) (dP ((lI (h.1.2 g (by simp[Ac.fs]))).up ∎ ∎) (d4 (n t rfl)))))
 |go t=>exact gi (m:=4) (w:=76) (by simp) ∎ (dP s (d4 (n t rfl)))
theorem uG(h:bO b)(hw:eS b):Pw 4946 5 (bR b):=by
 refine gi (m:=2) (w:=2472) (by simp) ∎ (dP ?_ (d4 ?_))
 ·refine(gi (m:=4) (w:=8) (k:=0) (by rw[Ab];exact hw.1) ∎ λd hd=>?_).up ∎ ∎;obtain⟨x,hx,rfl⟩:=Bi.mp hd;exact jP (hw.2.1 x hx)
 ·refine gi (m:=8) (w:=308) (by rw[Ab];exact h.2.1) ∎ λd hd=>?_;obtain⟨a,ha,rfl⟩:=Bi.mp hd;exact xC (h.2.2 a ha).1 (h.2.2 a ha).2
theorem vp(h:pO P)(hw:∀b∈P,eS b):Pw 29682 6 (bE P):=gi (m:=6) (w:=4946) (by rw[Ab];exact h.2.1) ∎ λd hd=>by
 obtain⟨b,hb,rfl⟩:=Bi.mp hd;exact uG (h.2.2 b hb) (hw b hb)
theorem yc(h:hG q):Pw 74 2 (bM q):=by
 obtain⟨_,h1,h2,h3⟩:=h;exact gi (m:=2) (w:=36) (by simp) ∎ (dP (gi (m:=4) (w:=8) h1 ∎ λd hd=>qO (h2 d hd)) (d4 ((Ll (k:=1) h3).up ∎ ∎)))
theorem i9(ok:PlO Ps qs):Pw 296832 8 (dv Ps qs):=by
 refine gi (m:=2) (w:=148415) (by simp) ∎ (dP ?_ (d4 ?_))
 ·refine gi (m:=5) (w:=29682) (by rw[Ab];exact ok.pl) ∎ λd hd=>?_;obtain⟨P,hP,rfl⟩:=Bi.mp hd;exact vp (ok.po P hP).1 (ok.po P hP).2.2
 ·refine(gi (m:=12) (w:=74) (k:=2) (by rw[Ab];exact ok.ql) ∎ λd hd=>?_).up ∎ ∎;obtain⟨q,hq,rfl⟩:=Bi.mp hd;exact yc (ok.qo q hq)
theorem tN(ok:PlO Ps qs):SmlA (dv Ps qs):=by
 have h:=i9 ok;obtain⟨a1,a2,a3,a4⟩:=h.1.sm;exact⟨a1,by omega,a4,Small.len ⟨a1,by omega,A4 h.2 ∎,a3,a4⟩⟩
theorem EO(h:ck d=ah):Bw (b6 d)=ah:=by
 rcases l6 h with⟨x,rfl,hx⟩|⟨j,rfl,hj⟩
 ·exact KW hx
 ·exact(xB j ⋯).1
theorem JY(h:iO d):∀y∈di d,Bw y=ah:=by
 rcases h with rfl|⟨i,rfl,h1,h2⟩
 ·exact λy hy=>by simp[di]at hy
 ·obtain⟨j,rfl,hj⟩:=nR h1 h2;intro y hy;simp only[di,Au]at hy;subst hy;exact mw ∅ (xB j ⋯).1
def mD(ys:List Str):Prop:=jC ys/\∀y∈ys,Bw y=ah
theorem YE(h:hG q):mD (ff q):=⟨uV h,λy hy=>by
 rcases Aq.mp hy with rfl|hy
 ·decide +kernel
 rcases Ax.mp hy with z|z
 ·obtain⟨v,hv,rfl⟩:=Bi.mp z;exact EO (h.2.2.1 v hv)
 ·exact JY h.2.2.2 y z⟩
theorem NL{f:Fe}(h:f.ok):Bw f.wd=ah:=by
 cases f with
 |any=>exact(show Bw "?"=ah by decide +kernel)
 |word=>exact(show Bw "$"=ah by decide +kernel)
 |num=>exact(show Bw "#"=ah by decide +kernel)
 |isv d=>exact EO (nq h)
 |bind k=>exact mw ∅ h.2
 |as k=>exact mw ∅ h.2
 |nx k=>exact mw ∅ h.2
theorem MY(h:gC a)(ht:toS a):mD (ij a):=⟨yx h ht,λy hy=>by
 rw[tV]at hy;rcases Aq.mp hy with rfl|hy
 ·exact(lB a.hw).2
 rcases Ax.mp hy with z|z
 ·obtain⟨f,hf,rfl⟩:=Bi.mp z;exact NL (h.1.2 f hf)
 ·have one:∀t,a.to=ae t->a.tw=[cw t]->Bw y=ah:=λt e1 e2=>by
   rw[e2]at z;rw[Au.mp z];exact mw ∅ (xB t (by have:=ht t e1;omega)).1
  cases a with
  |lay fs age=>exact JY h.2.2.1 y z
  |take fs=>simp[Ac.tw]at z
  |read fs=>simp[Ac.tw]at z
  |look fs t=>exact one t rfl rfl
  |same f g t=>exact one t rfl rfl
  |go t=>exact one t rfl rfl⟩
theorem MQ(h:bO b)(hw:eS b):∀ws∈gF b,mD ws:=λws hws=>by
 rcases Aq.mp hws with rfl|hws
 ·refine⟨ve hw,λy hy=>?_⟩;rcases Aq.mp hy with rfl|hy
  ·decide +kernel
  ·exact(hw.2.1 y hy).2
 ·obtain⟨a,ha,rfl⟩:=Bi.mp hws;exact MY (h.2.2 a ha).1 (h.2.2 a ha).2
theorem kL(ok:PlO Ps qs):∀ws∈bK qs Ps,mD ws:=λws hws=>by
 rcases Ax.mp hws with z|z
 ·obtain⟨q,hq,rfl⟩:=Bi.mp z;exact YE (ok.qo q hq)
 ·obtain⟨P,hP,z⟩:=Cg.mp z;rcases Aq.mp z with rfl|z
  ·exact⟨⟨by decide,λy hy=>by rw[Au.mp hy];decide +kernel⟩,λy hy=>by rw[Au.mp hy];decide +kernel⟩
  ·obtain⟨b,hb,z⟩:=Cg.mp z;exact MQ ((ok.po P hP).1.2.2 b hb) ((ok.po P hP).2.2 b hb) ws z
theorem K2(hz:Bw z=ah):∀{ys:List Str},(∀y∈ys,Bw y=ah)->Bw (Str.join z ys)=ah
 |[],_=>(show Bw Str.empty=ah by decide +kernel)
 |[y],h=>h y Ae
 |y::y'::r,h=>by
  show Bw (y++z++Str.join z (y'::r))=ah;exact mw (mw (h y Ae) hz) (K2 hz λx hx=>h x (Af _ hx))
theorem uR(h:mD ws):(dQ ws).length<=500/\Bw (dQ ws)=ah:=by
 have e:dQ ws=Str.join " " ws:=by
  show D6 " " ws=_;unfold D6;rw[StrLaws.glued_eq_join]
 rw[e];refine⟨?_,K2 ∅ h.2⟩;have h1:=StrLaws.join_length_le " " ws;have h2:=uY h.1.2;have h3:Str.length " "=1:=by decide +kernel
 have h4:=h.1.1;rw[h3]at h1;omega
theorem kX(h:∀ws∈wss,mD ws):Gh (.list (bU wss))=ah/\Gg (.list (bU wss))<=20:=by
 obtain⟨a1,a2,_,_⟩:=xD (k:=0) (ds:=bU wss) λd hd=>by
  unfold bU at hd;obtain⟨x,hx,rfl⟩:=Bi.mp hd;obtain⟨ws,hws,rfl⟩:=Bi.mp hx;exact⟨(uR (h ws hws)).2,Bf _,rfl,rfl⟩
 exact⟨by rw[Gh];exact a1,by rw[Gg];omega⟩
theorem VW(ok:PlO Ps qs):RdOk ((bK qs Ps).map dQ) (qs.map bM) (Ps.map λP=>P.map gZ) Ps:=RB (wM ok.qo λP hP=>(ok.po P hP).1) (by rw[Ab];exact FH ok) (λx hx=>by
 obtain⟨ws,hws,rfl⟩:=Bi.mp hx;exact(uR (kL ok ws hws)).1) ok
theorem Pa(h:kZ P)(h0:gz P):h9 (bE P)=ah:=by rw[vK (Vp h h0)];exact(HV h h0).1
theorem Ua{ps:Pg}(h1:ps.length<=5)(h2:∀P∈ps,kZ P/\gz P)(h3:l5 12 ns):PlO ps ns:=by
 refine⟨h1,λP hP=>?_,h3.1,λq hq=>?_⟩
 ·obtain⟨R,e,r⟩:=Iw (Pa (h2 P hP).1 (h2 P hP).2);rw[BB e];exact r
 ·obtain⟨⟨⟨h4,h1⟩,hv⟩,ha⟩:=h3.2 q hq;exact⟨h1,h4,λd hd=>nq (hv d hd),ha⟩
theorem Ru(h:l3 d=ah):∃Ps qs,d=dv Ps qs/\PlO Ps qs:=by
 have h':=h;unfold l3 at h'
 split at h'
 ·rename_i a b;rw[Ak]at h';obtain⟨ha,hb⟩:=h';unfold nj at ha
  split at ha
  ·unfold js at hb
   split at hb
   ·rw[Ak]at ha hb;obtain⟨Ps,qs,rfl,rfl,r1,r2⟩:=Nq (λd hd=>Be.mp ha.2 d hd) (λd hd=>Be.mp hb.2 d hd);have l1:=of_decide_eq_true ha.1;have l2:=of_decide_eq_true hb.1;rw[Ab]at l1 l2;exact⟨Ps,qs,rfl,l1,r1,l2,r2⟩
   ·cases hb
  ·cases ha
 ·cases h'
section
variable{δ:Sl}{n:Int}{Q:DQ}{K:DEnds}{i:Nat}
theorem nI{Q:List Aa->Int->Prop}(k:w δ n λx n1=>S [x] n1 Q):iy S (ao w ak) δ n Q:=k
theorem nu(h:SmlA d)(k:Q (.d (.str d.shown)) n):gU [.d d] n Q:=⟨h,k⟩
theorem xy(k:Q (.d (.bool ai)) n):iG (.d (.str S)) (.d (.str S)) n Q:=by
 have e:nA (.str S) (.str S)=ae ai:=by simp[nA,jH]
 show(match nA (.str S) (.str S)with|some r=>Q (.d (.bool r)) n|none=>False);rw[e];exact k
theorem LF(h:SmlA d)(e1:δ[i]?=ae (↑d))(e2:δ[j]?=ae (↑d)):∀Q:Bool->Int->Prop,Q ai n->cT (w2 (wB gU (ao (aj i) ak)) (wB gU (ao (aj j) ak)) iG) δ n Q:=λQ q=>aC (k:=ai) (λQ q=>av (aZ (au e1 (nu h (aZ (au e2 (nu h (xy q)))))))) q
theorem Yx(wss):Bp (.list (bU wss)) (.list (bU wss))=ah:=by
 rw[Bp];exact yF λd hd=>by
  unfold bU at hd;obtain⟨x,_,rfl⟩:=Bi.mp hd;rw[Bp];exact beq_self_eq_true x
theorem pA(h:∀ws∈wss,mD ws)(hv:um v=ae (.list (bU wss)))(k:Q (.d (.bool ai)) n):mM (λd e=>ae (!Bp d e)) v (.d (.list (bU wss))) n Q:=by
 unfold mM;rw[hv];exact⟨(kX h).1,(kX h).1,(kX h).2,(kX h).2,ai,by dsimp only;rw[Yx];rfl,k⟩
theorem LV{Q:List Aa->Int->Prop}(ha:∀Q:DQ,Q (.d x) n->a δ n Q)(hb:∀Q:DQ,Q (.d y) n->b δ n Q)(k:Q [x,y] n):aR (ao a (ao b ak)) δ n Q:=ha _ (hb _ (An (show 2<=1000 by decide) k))
end
theorem pJ(ok:PlO Ps qs)(hw:fm w=ae (bU (bK qs Ps)))(q:Q (.d (dv Ps qs)) n):kg [w] n Q:=⟨w,_,_,_,Ps,rfl,hw,VW ok,q⟩
theorem RR:bS yk Ho ["_law_plan_here","_law_lines_here","_law_own","_law_some","_law_handed","_law_found"]:=λws n Q h=>by
 obtain⟨Ps,qs,rfl,ok,hne,k⟩:=h;show Ho [↑(dv Ps qs),af,af,af,af,af] n _;have ow:=kL ok;have sm:=tN ok;refine aA (dz (x:=.list (bU (bK qs Ps))) (λQ q=>bf (nI (au rfl ⟨Ps,qs,rfl,ok,q⟩))) ?_);ac_nf;refine aA (dz (x:=.list (bU (bK qs Ps))) (λQ q=>aW (au rfl ⟨Ps,qs,rfl,ok,q⟩)) ?_);ac_nf;refine aA ?_;unfold bj eY;refine bf (LV (λQ q=>au rfl q) (λQ q=>au rfl q) ?_);have hl:=FH ok;obtain⟨l0,lr,hL⟩:∃a r,bU (bK qs Ps)=a::r:=by
  cases e:bK qs Ps with
  |nil=>exact absurd e hne
  |cons a r=>exact⟨_,_,rfl⟩
 refine eW (λds δ n'=>(∀d∈ds,d=.list (bU (bK qs Ps)))/\n'=n/\∃x3 x4 x5:Option SV,δ=[↑(dv Ps qs),↑(.list (bU (bK qs Ps))),↑(.list (bU (bK qs Ps))),x3,x4,x5]) (λδ n' I=>?_) (λd r δ n' N I kN=>?_) _ _ _ ⟨λd hd=>?_,rfl,af,af,af,rfl⟩
 ·obtain⟨_,rfl,x3,x4,x5,rfl⟩:=I;dsimp only;exact aY (aJ k)
 ·obtain⟨hd,rfl,x3,x4,x5,rfl⟩:=I;cases hd d Ae;nofun;refine aA (ko (show ky ↥3 _ n' _ from au rfl ?_));dsimp only[me,Aw];refine aA (dz (x:=dv Ps qs) (λQ q=>aW (kF rfl (pJ ok rfl q))) ?_);ac_nf;refine aA (aU (λQ q=>cn (a:=ai) (b:=ai) (LF sm rfl rfl) (λ_ Q q=>cn (a:=ai) (b:=ai) (λQ q=>aC (k:=ai) (λQ q=>av (kF rfl (au rfl (pA ow rfl q)))) q) (λ_ Q q=>aC (k:=ai) (λQ q=>av (bf (nI (au rfl ⟨Ps,qs,rfl,ok,au rfl (pA ow rfl q)⟩)))) q) q) q) ?_);ac_rfl;refine aA (iD (x:=.str "hand") (m:=n') rfl (λQ q=>aJ q) (by rw[j5];omega) ?_);ac_nf;have hput:∀{K:DEnds}{δ:Sl},δ[4]?=ae (ae (.own (bU (bK qs Ps)++[A7 "hand"])))->K.nx (δ.set 4 (ae (.own ((bU (bK qs Ps)++[A7 "hand"]).set 0 (A7 "note a"))))) n'->hV 4 ⇑0 ⇑"note a" δ n' K:=λ{K δ} e z=>by
   unfold hV;rw[e];refine aJ (aJ ?_);have e0:iJ (bU (bK qs Ps)++[A7 "hand"]).length 0=ae 0:=by rw[hL];simp[iJ];omega
   dsimp only;rw[e0];exact z
  refine aA (hput rfl ?_);ac_nf;refine aU (LF sm rfl rfl) ?_;exact kN _ _ ⟨λd hd'=>hd d (Af _ hd'),rfl,_,_,_,rfl⟩
 ·simp only[Aq,Av,or_false,or_self]at hd;exact hd
theorem YH(ok:PlO Ps qs)(h:ws∈bK qs Ps):D1 (dQ ws) " "=ws:=by
 have:=uw ok.qo (λP hP=>(ok.po P hP).1) ws h;exact IM this.1 this.2
theorem vg(ok:PlO Ps qs){p:Str->Bool}(hc:∀(x h:Str) (r:List Str),x.length<=500->Bw h=ah->D1 x " "=h::r->∀Q:Bool->Int->Prop,Q (p h) n->c [↑(.str x)] n Q):∀(wss:List (List Str))(acc:List Aa)(x:Option SV)(R:List Aa->Int->Prop),(∀ws∈wss,ws∈bK qs Ps)->R (acc++bU (wss.filter λws=>p (ws.headD ""))) n->cM (aF 0) c ↥0 R (bU wss) acc [x] n
 |[],acc,x,R,_,q=>by
  rw[List.filter_nil]at q;have e:acc++bU []=acc:=A5 _;rw[e]at q;exact q
 |ws::wss,acc,x,R,h,q=>by
  have hw:=h ws Ae;obtain⟨hd,r,rfl⟩:∃a r,ws=a::r:=by
   cases ws with
   |nil=>exact absurd rfl (uw ok.qo (λP hP=>(ok.po P hP).1) _ hw).1
   |cons a r=>exact⟨a,r,rfl⟩
  show cM (aF 0) c ↥0 R (.str (dQ (hd::r))::bU wss) acc [x] n;unfold cM;nofun;refine hc _ hd r (uR (kL ok _ hw)).1 ((kL ok _ hw).2 hd Ae) (YH ok hw) _ ?_;have ih:=λacc x=>vg ok hc wss acc x R λv hv=>h v (Af _ hv);cases hp:p hd with
  |true=>
   grind;refine au rfl (ih (acc++[.str (dQ (hd::r))]) _ ?_);rw[List.filter_cons_of_pos (by exact hp)]at q;rw[A9];exact q
  |false=>
   rw[if_neg Al];refine ih acc _ ?_;rw[List.filter_cons_of_neg (by rw[show p ((hd::r).headD "")=p hd from rfl,hp];decide)]at q;exact q
theorem JN(qs:List (List Aa×Aa)):∀ws∈qs.map ff,decide (ws.headD ""="note")=ah:=λws h=>by
 obtain⟨q,_,rfl⟩:=Bi.mp h;show decide (Hw.note.s="note")=ah
 decide +kernel
theorem y3(h:Hw)(hn:h≠.note):decide (h.s="note")=ai:=by cases h<;>first|exact absurd rfl hn|decide +kernel
theorem HU(Ps:List (List Bl)):∀ws∈Ps.flatMap fD,decide (ws.headD ""="note")=ai:=λws h=>by
 obtain⟨P,_,h⟩:=Cg.mp h;rcases Aq.mp h with rfl|h
 ·exact y3 .hand (λz=>nomatch z)
 ·obtain⟨b,_,h⟩:=Cg.mp h;rcases Aq.mp h with rfl|h
  ·exact y3 .block (λz=>nomatch z)
  ·obtain⟨a,_,rfl⟩:=Bi.mp h;exact y3 a.hw (by cases a<;>exact λz=>nomatch z)
theorem Ld{α:Type}{p:α->Bool}:∀{l:List α},(∀x∈l,p x=ah)->l.filter p=l:=λh=>List.filter_eq_self.mpr h
theorem Kf{α:Type}{p:α->Bool}:∀{l:List α},(∀x∈l,p x=ai)->l.filter p=[]:=λh=>List.filter_eq_nil_iff.mpr λx hx=>by rw[h x hx];decide
theorem Y2(qs)(Ps):(bK qs Ps).filter (λws:List Str=>decide (ws.headD ""=("note":Str)))=bK qs []:=by
 unfold bK;rw[List.filter_append,Ld (JN qs),Kf (HU Ps)];rfl
theorem YL(qs)(Ps):(bK qs Ps).filter (λws:List Str=>!decide (ws.headD ""=("note":Str)))=bK [] Ps:=by
 unfold bK;rw[List.filter_append,Kf (λx hx=>by rw[JN qs x hx];rfl),Ld (λx hx=>by rw[HU Ps x hx];rfl)];rfl
theorem Jd(ok:PlO Ps qs)(k:Q (.d (.bool ah)) n):fw (λd e=>ae (Bp d e)) (.d (dv Ps qs)) (.d (dv Ps qs)) n Q:=by
 have h:=(i9 ok).1;obtain⟨a1,a2,_,_⟩:=h.sm;exact⟨a1,a1,by omega,by omega,ah,by dsimp only;rw[h.refl],k⟩
theorem JD(h):Bp (.str h) (.str "note")=decide (h="note"):=by
 rw[Bp];by_cases e:h="note"
 ·rw[decide_eq_true e,e];exact beq_self_eq_true _
 ·rw[decide_eq_false e];exact beq_eq_false_iff_ne.mpr e
theorem LN(k:Q (.d a) n):aD (.d (.list (a::r))) (~~~0) n Q:=by
 show(match cF (a::r) 0 with|some d=>Q (.d d) n|none=>False);rw[oX];exact k
theorem Lb{p:Str->Bool}(hf:∀h:Str,f (.str h) (.str "note")=ae (p h)):∀(x h:Str)(r:List Str),x.length<=500->Bw h=ah->D1 x " "=h::r->∀Q:Bool->Int->Prop,Q (p h) n->cT (w2 ⇑1022 ⇑"note" (fw f)) [↑(.str x)] n Q:=λx h r hx ho hs Q q=>by
 refine aC (k:=p h) (λQ q=>av (av (bf (show nZ ↥0 ⇑" " _ n _ from au rfl (aJ (An ⟨by decide +kernel,A4 hx ∎⟩ ?_)))))) q;rw[hs];refine aJ (show aD (.d (.list (.str h::r.map .str))) (~~~0) n _ from ?_);refine LN (aJ ?_);exact(show fw f (.d (.str h)) (.d (.str "note")) n _ from⟨ho,by decide +kernel,Bf _,Bf _,p h,hf h,q⟩)
theorem OG:bS lN CF ["_law_plan_here","_law_lines_here","_law_notes_here","_law_rest"]:=λws n Q h=>by
 obtain⟨Ps,qs,rfl,ok,k⟩:=h;show CF [↑(dv Ps qs),af,af,af] n _;have okN:PlO [] qs:=⟨Bf _,λP hP=>absurd hP Av,ok.ql,ok.qo⟩;have okH:PlO Ps []:=⟨ok.pl,ok.po,Bf _,λq hq=>absurd hq Av⟩;refine aA (dz (x:=.list (bU (bK qs Ps))) (λQ q=>bf (nI (au rfl ⟨Ps,qs,rfl,ok,q⟩))) ?_);ac_nf;refine aA (dz (x:=.list (bU (bK qs []))) (λQ q=>bf ?_) ?_)
 ·unfold bB eY;refine au rfl (vg ok (p:=λh=>decide (h="note")) (Lb λh=>by rw[JD]) (bK qs Ps) [] _ _ (λ_ h=>h) ?_);rw[Y2,Bz];exact q
 ac_nf;refine aA (dz (x:=.list (bU (bK [] Ps))) (λQ q=>bf ?_) ?_)
 ·unfold bB eY;refine au rfl (vg ok (p:=λh=>!decide (h="note")) (Lb λh=>by rw[JD]) (bK qs Ps) [] _ _ (λ_ h=>h) ?_);rw[YL,Bz];exact q
 ac_nf;refine aY (b8 (a:=ah) (b:=ah) (λQ q=>av (aW (au rfl (pJ okN rfl (dD (kW (gw rfl (An (show 2<=1000 by decide) (Jd okN q)))))))) ) (λ_ Q q=>av (aW (au rfl (pJ okH rfl (dD (fJ rfl (kW (An (show 2<=1000 by decide) (Jd okH q)))))))) ) k)
theorem o9:PlO [] []:=⟨Bf _,λP hP=>absurd hP Av,Bf _,λq hq=>absurd hq Av⟩
theorem xh(ps:Pg):bI (ps.map bE) af (ae 3)=(ps.take 3).map bE:=by
 unfold bI;rw[show(3:Int)=((3:Nat):Int)from rfl,HT.sIx_nat,HT.sIx_none,List.map_take];simp
theorem Vb(hw:∀Q:DQ,Q ‹ds› n->w δ n Q)(k:Q ‹(bI ds af (ae 3))› n):cu w cJ (cg (wC (.int 3))) δ n Q:=by
 unfold cu cJ cg;exact hw _ (aJ k)
theorem Yu(a b)(e:bM a=bM b):a=b:=by
 have:=Cr (C8 e);exact Prod.ext (C8 this.1) (Cr this.2).1
theorem M5(e:dv Ps qs=dv Ps' qs'):Ps=Ps'/\qs=qs':=by
 have:=Cr (C8 e);exact⟨mB (λ_ _=>BB) (C8 this.1),mB Yu (C8 (Cr this.2).1)⟩
theorem WX(a b:List (List Str)):Bp (.list (bU a)) (.list (bU b))=decide (a.map dQ=b.map dQ):=by
 rw[Bp];exact FO _ _
theorem AL(ok:PlO Ps qs)(ok':PlO Ps' qs'):Bp (.list (bU (bK qs' Ps'))) (.list (bU (bK qs Ps)))=Bp (dv Ps' qs') (dv Ps qs):=by
 rw[WX];cases h:Bp (dv Ps' qs') (dv Ps qs)with
 |true=>
  obtain⟨rfl,rfl⟩:=M5 ((i9 ok').1.inj _ ⟨_,(i9 ok).1⟩ h);exact decide_eq_true rfl
 |false=>
  refine decide_eq_false λe=>?_;obtain⟨e1,e2⟩:=OV ok'.qo ok'.ql (λP hP=>(ok'.po P hP).1) ok'.pl ok.qo ok.ql (λP hP=>(ok.po P hP).1) ok.pl e;have:dv Ps' qs'=dv Ps qs:=by unfold dv;rw[e1,e2]
  rw[this,(i9 ok).1.refl]at h;cases h
theorem Jy(h1:Pw w 8 d)(h2:Pw w' 8 e)(hf:f d e=ae b)(k:Q (.d (.bool b)) n):fw f (.d d) (.d e) n Q:=⟨h1.1.sm.1,h2.1.sm.1,by have:=h1.1.sm.2.1;omega,by have:=h2.1.sm.2.1;omega,b,hf,k⟩
theorem WY(h:Bp (dv Ps qs) (dv [] [])=ai):bK qs Ps≠[]:=λe=>by
 unfold bK at e;obtain⟨e1,e2⟩:=List.append_eq_nil_iff.mp e;cases C6.mp e1;have:Ps=[]:=by
  cases Ps with
  |nil=>rfl
  |cons P r=>cases e2
 subst this;rw[(i9 o9).1.refl]at h;cases h
abbrev Oi:aL:=aq (aT 5 (az (kx 9) (ao ↥1 (ao ↥3 ak)))) (aX (cT (az o6 (ao ↥5 ak))) (aq (aX (cT (w2 (w2 (aV (iy iZ (ao ↥5 ak))) (aV (iy iZ (ao ↥3 ak))) (fw λd e=>ae (Bp d e))) (w2 ↥5 ↥3 (fw λd e=>ae (Bp d e))) (fw λd e=>ae (!Bp d e)))) (aw (wC (.bool ai))) aG) (aX (cT (w2 (wB gU (ao (az kg (ao (aV (iy iZ (ao ↥5 ak))) ak)) ak)) (wB gU (ao ↥5 ak)) iG)) (aw (wC (.bool ai))) aG)) aG)
theorem QO(ok:PlO Ps qs)(hn:n+9 < 2 ^ 39)(k:∀(x:Option SV) (n':Int),n'<=n+9->K.nx [af,ae (.w .tp),a,↑(dv Ps qs),b,x] n'):Oi [af,ae (.w .tp),a,↑(dv Ps qs),b,c] n K:=by
 refine aA (show aT 5 _ _ _ _ from dZ (au rfl (au rfl ⟨dv Ps qs,8,rfl,(i9 ok).1,Ay 8,by omega,λd n' hT hn'=>?_⟩)));ac_nf;have ci:∀Q:Bool->Int->Prop,Q (l3 d) n'->cT (az o6 (ao ↥5 ak)) [af,ae (.w .tp),a,↑(dv Ps qs),b,↑d] n' Q:=λQ q=>aC (λQ q=>aW (au rfl ⟨d,rfl,⟨12,9,hT,by decide,by decide⟩,q⟩)) q;cases hp:l3 d with
 |false=>exact aU (λQ q=>ci Q (by rw[hp];exact q)) (k _ _ ⋯)
 |true=>
  obtain⟨Ps',qs',rfl,ok'⟩:=Ru hp;refine bo (λQ q=>ci Q (by rw[hp];exact q)) ?_;have sm:=tN ok';refine aA (aU (λQ q=>aC (k:=ai) (λQ q=>av (av (bf (nI (au rfl ⟨Ps',qs',rfl,ok',bf (nI (au rfl ⟨Ps,qs,rfl,ok,?_⟩))⟩))))) q) ?_)
  ·refine(show fw (λd e=>ae (Bp d e)) (.d (.list (bU (bK qs' Ps')))) (.d (.list (bU (bK qs Ps)))) n' _ from⟨(kX (kL ok')).1,(kX (kL ok)).1,(kX (kL ok')).2,(kX (kL ok)).2,_,rfl,?_⟩);refine av (au rfl (au rfl (Jy (i9 ok') (i9 ok) rfl ?_)));refine(show fw (λd e=>ae (!Bp d e)) (.d (.bool _)) (.d (.bool _)) n' _ from⟨rfl,rfl,Bf _,Bf _,ai,?_,q⟩);dsimp only;rw[AL ok ok',Bp,beq_self_eq_true];rfl
  ac_rfl;refine aU (λQ q=>aC (k:=ai) (λQ q=>av (aZ (aW (bf (nI (au rfl ⟨Ps',qs',rfl,ok',pJ ok' rfl (nu sm (aZ (au rfl (nu sm (xy q)))))⟩)))))) q) (k _ _ ⋯)
abbrev Zi:List Str:=["_law_script","_law_tape_here","_law_k","_law_plan_here","_law_j","_law_other"]
theorem Mk:Ka (af::ae (.w .tp)::C0 (E8 Zi-2) af) 0 pD:=by
 show Ka [af,ae (.w .tp),af,af,af,af] 0 pD;refine aA (aU (λQ q=>aC (k:=ai) (λQ q=>av (aZ (aW (iU (pJ o9 rfl (nu (tN o9) (aZ (dD (kW (kW (An (show 2<=1000 by decide) (nu (tN o9) (xy q))))))))))))) q) ?_);ac_rfl;refine aA (show bj _ _ _ _ _ _ from An ∎ ?_);refine eW (λds δ n=>(∃a b c d:Option SV,δ=[af,ae (.w .tp),a,b,c,d])/\n+4300*(ds.length:Int)<=20000) (λδ n I=>?_) (λd0 r0 δ n N0 I kN0=>?_) _ _ _ ⟨⟨af,af,af,af,rfl⟩,by rw[fE];decide⟩
 ·obtain⟨⟨a,b,c,d,rfl⟩,hn⟩:=I;exact(show(Wv.d (.bool ah))=.d (.bool ah)from rfl)
 ·obtain⟨⟨a,b,c,d,rfl⟩,hn⟩:=I;rw[Am]at hn;nofun;have h39:(2:Int) ^ 39=549755813888:=by decide
  refine aA (show aT 3 _ _ _ _ from aW (au rfl (An rfl ⟨by omega,λps ns n1 hps hf hns hn1=>?_⟩)));ac_nf;have ok:PlO (ps.take 3) ns:=Ua (by rw[E1];omega) (λP hP=>⟨hps.2 P (Gw hP),hf P (Gw hP)⟩) hns;generalize hP3:ps.take 3=Ps at ok;refine aA (dz (x:=dv Ps ns) (λQ q=>dD ?_) ?_)
  ·refine Vb (ds:=ps.map bE) (λQ q=>fJ (a:=vR ps) (r:=[sr ns]) rfl q) ?_;rw[xh,hP3];exact gw (a:=vR ps) (b:=sr ns) (r:=[]) rfl (An (show 2<=1000 by decide) q)
  ac_nf;refine aA (aU (λQ q=>cn (a:=ai) (b:=ai) (λQ q=>eU (a:=!Bp (dv Ps ns) (dv [] [])) (b:=ai) (λQ q=>aC (λQ q=>av (au rfl (dD (kW (kW (An (show 2<=1000 by decide) (Jy (i9 ok) (i9 o9) rfl q))))))) q) (λz Q q=>gE (k:=ah) (λQ q=>aC (λQ q=>aW (au rfl ⟨Ps,ns,rfl,ok,WY (by simpa using z),q⟩)) q) q) (by rw[Gm];exact q)) (λ_ Q q=>gE (k:=ah) (λQ q=>aC (λQ q=>aW (au rfl ⟨Ps,ns,rfl,ok,q⟩)) q) q) q) ?_);ac_rfl;refine(show bj _ _ _ _ _ _ from An ∎ ?_);refine eW (λds δ n'=>(∃b c:Option SV,δ=[af,ae (.w .tp),↑d0,↑(dv Ps ns),b,c])/\n'+9*(ds.length:Int)<=n1+36) (λδ n' I=>?_) (λd1 r1 δ n' N1 I kN1=>?_) _ _ _ ⟨⟨c,d,rfl⟩,by rw[fE];omega⟩
  ·obtain⟨⟨b,c,rfl⟩,hn'⟩:=I;rw[Dc]at hn';exact kN0 _ _ ⟨⟨_,_,_,_,rfl⟩,by omega⟩
  ·obtain⟨⟨b,c,rfl⟩,hn'⟩:=I;rw[Am]at hn';nofun;exact QO ok ⋯ λx n2 h2=>kN1 _ _ ⟨⟨_,_,rfl⟩,by omega⟩
theorem UZ{α:Type}{us:List α}(h:us.length=1):∃a,us=[a]:=match us,h with|[a],_=>⟨a,rfl⟩
theorem XN{α:Type}{us:List α}(h:us.length=2):∃a b,us=[a,b]:=match us,h with|[a,b],_=>⟨a,b,rfl⟩
theorem LH{α:Type}{us:List α}(h:us.length=3):∃a b c,us=[a,b,c]:=match us,h with|[a,b,c],_=>⟨a,b,c,rfl⟩
theorem Y0{α:Type}{us:List α}(h:us.length=4):∃a b c d,us=[a,b,c,d]:=match us,h with|[a,b,c,d],_=>⟨a,b,c,d,rfl⟩
theorem Yr{α:Type}{us:List α}(h:us.length=5):∃a b c d e,us=[a,b,c,d,e]:=match us,h with|[a,b,c,d,e],_=>⟨a,b,c,d,e,rfl⟩
theorem tK{N ps:List Str}{S:Fl}(h1:S.kind=.function:=by rfl)(h2:S.isCoroutine=ai:=by rfl)(h3:S.isGenerator=ai:=by rfl)(h4:N.Nodup:=by decide +kernel)(h5:N.take ps.length=ps:=by rfl)(h6:∀x∈ps,S.names.lookup x=ae .local\/S.names.lookup x=ae .cell:=by decide +kernel)(h7:∀y∈S.names,y.2≠.free:=by decide +kernel):FnScope N ps S:=⟨h1,h2,h3,h4,h5,h6,h7⟩
theorem mz(h:Has X.prog X.w X.K X.mg X.base k x ps S)(hr:Room k' X.A)(ha:DA X (e::es) tR wR)(hk:k<=k')(hg:Gl X x)(hdb:(x==("__debug__":Str))=ai)(he:A8 (e::es) X.env=(ai,eval e X.env)::A8 es X.env)(hpl:(Df pos (A8 es X.env)).any (·.1)=ai):DE X (.Call (.Name x p) (e::es) [] pos) (iC (eM S) [] E0 tR) (az S wR):=Uc h (hr.mono hk) hg ha hdb he hpl
theorem zd(h:HasN X.prog X.w X.K X.mg X.base k x ps S)(hr:Room k' X.A)(ha:DA X (e::es) tR wR)(hk:k<=k')(hg:Gl X x)(hdb:(x==("__debug__":Str))=ai)(he:A8 (e::es) X.env=(ai,eval e X.env)::A8 es X.env)(hpl:(Df pos (A8 es X.env)).any (·.1)=ai):DF X (.Call (.Name x p) (e::es) [] pos) (iC (nH S) [] E0 tR) (iy S wR):=Xk h (hr.mono hk) hg ha hdb he hpl
def S0:NameKind->Bool
 |.local=>ah
 |_=>ai
def Kx:NameKind->Bool
 |.free=>ah
 |_=>ai
def oV(sc:Fl):List Str:=(sc.names.filter λy=>Kx y.2).map (·.1)
def cN(sc:Fl):List Str:=((sc.names.drop 1).filter λy=>S0 y.2).map (·.1)++oV sc
def pq(sc:Fl)(cells:List (Str×Addr)):List (Str×Addr):=(oV sc).reverse.map λx=>(x,(cells.lookup x).getD 0)
def tS(sc:Fl):List (Str×NameKind):=sc.names.map λy=>(y.1,bif Kx y.2 then .cell else y.2)
inductive Frs(X:Cx)(sc:Fl):List (Option Nat)->List Str->Prop
 |nil:Frs X sc [] []
 |own {f:List (Option Nat)} {x:Str} {N:List Str} (h:Frs X sc f N):Frs X sc (af::f) (x::N)
 |free {f:List (Option Nat)} {x:Str} {N:List Str} {i:Nat} (h1:X.N[i]?=ae x) (h2:gT X.env.scope x) (h3:X.env.kindOf x=ae .cell\/X.env.kindOf x=ae .free) (h4:(tS sc).lookup x=ae .cell\/(tS sc).lookup x=ae .free) (h5:(pq sc X.env.cells).lookup x=X.env.cells.lookup x) (h:Frs X sc f N):Frs X sc (ae i::f) (x::N)
theorem Frs.len(h:Frs X sc f N):f.length=N.length:=by
 induction h with
 |nil=>rfl
 |own _ ih=>rw[Am,Am,ih]
 |free _ _ _ _ _ _ ih=>rw[Am,Am,ih]
theorem Sg(h1:closureFor sc X.env=pure (pq sc X.env.cells))(h2:sc.kind=.function)(h3:∀y∈sc.names,y.2≠.cell)(h4:∀y∈sc.names,y.2=.local->sc.names.lookup y.1=ae .local)(h5:((oV sc).all λx=>(X.env.cells.lookup x).isSome)=ah)(h6:(relabel sc X.env).names=tS sc)(h7:∀y∈tS sc,(y.2=.cell\/y.2=.free)->y.1∈(oV sc).reverse)(h8:Frs X sc f (cN sc)):CompSc X (cN sc) sc (pq sc X.env.cells) f:=by
 refine⟨h1,h2,h3,h4,Pp λy hy=>?_,VX _ _ h6 (show(pq sc X.env.cells).map (·.1)=(oV sc).reverse by unfold pq;rw[Ck];exact List.map_id' _) h7,h8.len,?_⟩
 ·obtain⟨x,hx,rfl⟩:=Bi.mp hy;obtain⟨c,hc⟩:=Option.isSome_iff_exists.mp (Be.mp h5 x (List.mem_reverse.mp hx));show X.env.cells.lookup x=ae ((X.env.cells.lookup x).getD 0);rw[hc];rfl
 ·intro j i h;rw[h6];clear h1 h2 h3 h4 h5 h6 h7;generalize cN sc=N at h8 ⊢
  induction h8 generalizing j with
  |nil=>cases h
  |own _ ih=>cases j with
   |zero=>cases h
   |succ j=>exact ih j h
  |free a b c d e _ ih=>cases j with
   |zero=>cases h;exact⟨_,rfl,a,b,c,d,e⟩
   |succ j=>exact ih j h
theorem X5(h:Frs X sc f N):Frs X sc f N:=h
theorem kC(h:X.K=K):(dj X N sc cl s H fp).K=K:=h
theorem nC(h:N.Nodup):(dj X N sc cl s H fp).N.Nodup:=h
theorem UK:kA X pos [] [] (([]:List (Str×Str)).map λp=>(tC (.str p.1),tC (.str p.2))):=Rk
theorem Oq{D:List (Str×Str)}(h:kA X pos ks vs (D.map λp=>(tC (.str p.1),tC (.str p.2)))):kA X pos (ae (.Constant (.str x) j p)::ks) (.Constant (.str y) j' p'::vs) (((x,y)::D).map λp=>(tC (.str p.1),tC (.str p.2))):=NC nQ nQ h
def zL:List Str:=["all","bool","enumerate","int","isinstance","len","list","range","repr","set","sorted","str","tuple","zip"]
theorem zU{mg:Str->Option Aj}(z:∀x∈zL,mg x=af)(h:x∈zL):mg x=af:=z x h
theorem Y8:Cf "set"=ae (.type "set"):=by decide +kernel
theorem NF:Cf "sorted"=ae (.builtin "sorted"):=by decide +kernel
section
variable{P:Bs}{w:B5}{K:Ag}{mg:Str->Option Aj}{base:Heap}{fa:Addr}{fd:C1}
theorem UI{w:DT}(h:DE X e t w):DE X e t w:=h
theorem QX{w:fC}(h:DA X e t w):DA X e t w:=h
theorem Xw{w:aL}(h:DS X e t w):DS X e t w:=h
theorem zG{w:aL}(h:DSs X e t w):DSs X e t w:=h
theorem S2{w:cI}(h:DC X e t w):DC X e t w:=h
theorem VE{w:fK}(h:DF X e t w):DF X e t w:=h
theorem Of{w:gG}(h:DI X g e t w):DI X g e t w:=h
theorem Qb{b rest:List Stmt}(e:b=st::rest)(h:DSs X (st::rest) T W):DSs X b T W:=e▸h
theorem mG(F:Fun K x x st fa fd)(h:∀(kV doc pm:Aj) (an:Option Addr) (cdv ct:Aj) (us:List Aj),us.length=ps.length->bindArgs (Fv x x (my st) (gB st) (dh st) .none kV doc pm an cdv ct) ⟨us,[]⟩=pure (ps.zip us):=by
 intro _ _ _ _ _ _ us hl
 first
  |obtain⟨_,rfl⟩:=UZ hl;rfl
  |obtain⟨_,_,rfl⟩:=XN hl;rfl
  |obtain⟨_,_,_,rfl⟩:=LH hl;rfl
  |obtain⟨_,_,_,_,rfl⟩:=Y0 hl;rfl
  |obtain⟨_,_,_,_,_,rfl⟩:=Yr hl;rfl):Binds K fd ps []:=F.binds h
def zY(x:Str)(st:Stmt)(ps:List Str):Prop:=∀{K:Ag}{fa:Addr}{fd:C1},Fun K x x st fa fd->Binds K fd ps []
def iH(P:Bs)(w:B5)(K:Ag)(mg:Str->Option Aj)(base:Heap)(k:Nat)(x:Str)(i:Nat)(fa:Addr)(N:List Str)(b:List Stmt)(W:aL):Prop:=N.Nodup->∀(cdv:Aj)(A:Cj)(outer:List Env)(s:Ao)(H:Hp)(E:XK),Room k (A.deeper (D2 x (dh (c8 i)) s.heap.objs.size fa cdv))->∃T,DSs (dM dy P w K mg base N x (dh (c8 i)) fa cdv A outer s H E).nox b T W
theorem pX{N:List Str}{b:List Stmt}{W:aL}(h:N.Nodup->∀(cdv:Aj) (A:Cj) (outer:List Env) (s:Ao) (H:Hp) (E:XK),Room k (A.deeper (D2 x (dh (c8 i)) s.heap.objs.size fa cdv))->∃T,DSs (dM dy P w K mg base N x (dh (c8 i)) fa cdv A outer s H E).nox b T W:=by
 intro nd cdv A outer s H E hr;apply Eb;apply Qb (by exact rfl)
 repeat' first
  |with_reducible first|exact M7|exact Zw|exact Uh|exact CM|exact PySem.boot_len|exact AO|exact PyProof.Rows.boot_range|exact S6|exact Y8|exact NF|exact R7|exact XA
  |with_reducible first|apply Room.units|apply Room.units0|apply Room.hd|apply Room.gd
  |exact rfl
  |exact Dr rfl
  |exact Cw (Dr rfl)
  |exact Cw (Cw rfl)
  |exact Cw rfl
  | (with_reducible apply UI;with_reducible first|apply ji|apply zF|apply mz|apply CJ|apply uz|apply RH|apply TQ|apply ue (DH ?_) KI ?_ ?_ ?_ ?_ ?_ ?_ ?_ ?_|apply YU|apply UG|apply vP|apply Ni|apply Nu|apply ue (Um ?_) W2 ?_ ?_ ?_ ?_ ?_ ?_ ?_ ?_|apply YQ|apply X0|apply nK PL RZ ?_ ?_ ?_ ?_ ?_ ?_ ?_ ?_|apply OH|apply Td|apply Pe|apply jS (xj ?_ ?_) xc|apply ue (Qh ?_ ?_ ?_) WG ?_ ?_ ?_ ?_ ?_ ?_ ?_ ?_|apply xg|apply P4|apply Mv|apply jS JL KA|apply ue (DH ?_) TJ ?_ ?_ ?_ ?_ ?_ ?_ ?_ ?_|apply nK (II ?_) Q6 ?_ ?_ ?_ ?_ ?_ ?_ ?_ ?_|apply Tg pI qc pI qc ?_ ?_ ?_ ?_|apply RD|apply P5|apply Qx|apply XQ|apply UW|apply jS (Na ?_ ?_) O5|apply jS (Jk ?_ ?_) zH|apply nK (II ?_) HR ?_ ?_ ?_ ?_ ?_ ?_ ?_ ?_|apply Zs|apply Xn|apply jS J6 EN|apply jS pI qc|apply NP|apply P2|apply LG|apply Xz|apply YC|apply Xq|apply X7|apply jS Nl NR|apply jS Hx Ib|apply jS (oP ?_) lQ|apply nK Wf Rh ?_ ?_ ?_ ?_ ?_ ?_ ?_ ?_|apply nK (uS ?_) GR ?_ ?_ ?_ ?_ ?_ ?_ ?_ ?_|apply nK (uS ?_) Zr ?_ ?_ ?_ ?_ ?_ ?_ ?_ ?_|apply ZE|apply DF.d)
  | (with_reducible apply QX;with_reducible first|apply m3|apply xq)
  | ((with_reducible apply Xw);first|((with_reducible apply Xf);case hx=>exact rfl)|((with_reducible apply NA);case hx=>exact rfl)|with_reducible first|apply Xg|apply v7|apply YG|apply MG|apply ZM|apply RL|apply Yn|apply Xb|apply Od|apply Uw|apply Yw|apply RX|apply z0|apply ZO)
  | (with_reducible apply zG;with_reducible first|apply RT|apply Y9|apply XG|apply ss_no|apply Zv)
  | ((with_reducible apply S2);first|(with_reducible apply DCW.cc;with_reducible first|apply cw_and|apply cw_or)|with_reducible first|apply gK (xj ?_ ?_) xc|apply Xy|apply gK (xj ?_ ?_) RV|apply gK JL KA|apply UA|apply gK (oP ?_) lQ|apply gK Hx Ib|apply gK OT PM|apply gK LS Vd|apply gK J6 EN|apply gK (TZ ?_ ?_) Yp|apply gK (Hn ?_ ?_) zH|apply Ta|apply gK (ER ?_) lQ|apply gK (ER ?_) Jn|apply gK (Hn ?_ ?_) X8|apply gK (oP ?_) Jn|apply gK (Jk ?_ ?_) zH|apply MX pI qc pI qc ?_ ?_ ?_ ?_|apply U5)
  | (with_reducible apply VE;with_reducible first|apply Ye|apply z9|apply zd|apply Og|apply XT|apply VD|apply JJ)
  | (with_reducible apply Of;with_reducible first|apply Uj|apply XX|apply R0|apply Tr|apply S4|apply WZ|apply Xc)
  |with_reducible first|apply zu|apply vS|apply Nm|apply cw_or|apply zx|apply cw_or1|apply Ig|apply cw_and|apply Te|apply IX|apply IB|apply cw_and1|apply WT|apply Xh|apply QG|apply Oq|apply UK|apply Sg
  |assumption
  |with_reducible first|apply kC|apply nC
  | ((with_reducible apply X5);first|apply Frs.nil|apply Frs.own|apply Frs.free)
  |exact kJ _
  |exact λ_ _=>rfl
  |exact λ_=>rfl
  |exact zU (by assumption) ∅
  |exact PassesOwn.never
  |exact⟨rfl,rfl,rfl,rfl⟩
  |with_unfolding_all rfl
  |decide
  |decide +kernel
  |omega
  |exact Cw (Cw (Dr rfl))
  |exact Cw (Cw (Cw (Dr rfl)))
  |exact Cw (Cw (Cw (Cw rfl)))
  |intro(_:Ao) _ _
  |exact(0:Int)):iH P w K mg base k x i fa N b W:=h
theorem aE(k p)(x)(F:Fun K x x (c8 i) fa fd/\mg x=ae (.ref fa))(body:bS S W N)(len:∀ws n Q,S ws n Q->ws.length=p:=by(intro _ _ _ h;(repeat obtain⟨_,h⟩:=h);subst_vars;rfl))(hp:(N.take p).length=p:=by rfl)(Sc:FnScope N (N.take p) (dh (c8 i)):=by exact tK)(b:zY x (c8 i) (N.take p):=by intro _ _ _ F;exact mG F)
  (h:iH P w K mg base k x i fa N (gB (c8 i)) W:=by exact pX):Has P w K mg base (k+1) x (N.take p) S:=
 Has.mk' F.1 F.2 (b F.1) (Fun.okD F.1 Sc (λws n Q q=>by rw[hp];exact len ws n Q q) λcdv A outer s H E hr=>(h Sc.nd cdv A outer s H E hr).elim λT d=>⟨T,W,d,body⟩)
theorem vk{N:List Str}(k p)(x)(F:Fun K x x (c8 i) fa fd/\mg x=ae (.ref fa))(body:∀ws n Q,S ws n Q->W (cz N ws) n {nx:=λ_ _=>False,rt:=λ_ _=>False,rn:=Q})(len:∀ws n Q,S ws n Q->ws.length=p:=by(intro _ _ _ h;(repeat obtain⟨_,h⟩:=h);subst_vars;rfl))(hp:(N.take p).length=p:=by rfl)(Sc:FnScope N (N.take p) (dh (c8 i)):=by exact tK)(b:zY x (c8 i) (N.take p):=by intro _ _ _ F;exact mG F)
  (h:iH P w K mg base k x i fa N (gB (c8 i)) W:=by exact pX):HasN P w K mg base (k+1) x (N.take p) S:=
 HasN.mk' F.1 F.2 (b F.1) (Fun.okN F.1 Sc (λws n Q q=>by rw[hp];exact len ws n Q q) λcdv A outer s H E hr=>(h Sc.nd cdv A outer s H E hr).elim λT d=>⟨T,W,d,body⟩)
theorem AH{S:Nat->bx}{W:bx->aL}(c0)(x)(F:Fun K x x (c8 i) fa fd/\mg x=ae (.ref fa))(len:∀d ws n Q,S d ws n Q->ws.length=p)(z:∀ws n Q,¬S 0 ws n Q)(body:∀d ws n Q,S (d+1) ws n Q->W (S d) (cz N ws) n {nx:=λ_ n=>Q (.d .none) n,rt:=Q})(D)(hp:(N.take p).length=p:=by rfl)(Sc:FnScope N (N.take p) (dh (c8 i)):=by exact tK)(b:zY x (c8 i) (N.take p):=by intro _ _ _ F;exact mG F)
  (h:∀k d:Nat,c0<=k->Has P w K mg base k x (N.take p) (S d)->iH P w K mg base k x i fa N (gB (c8 i)) (W (S d)):=by intro k d hk hS;exact pX):Has P w K mg base (c0+D) x (N.take p) (S D):=by
 induction D with
 |zero=>exact Has.mk' F.1 F.2 (b F.1) ⟨λvs H Q E h=>(by obtain⟨_,_,_,_,_,_,_,_,_,_,_,q,_⟩:=h;exact absurd q (z _ _ _)),λA outer s H args us vs Q E hr he hb hv h=>(by obtain⟨_,_,_,_,_,_,_,_,_,_,_,q,_⟩:=h;exact absurd q (z _ _ _))⟩
 |succ d ih=>exact Has.mk' F.1 F.2 (b F.1) (Fun.okD F.1 Sc (λws n Q q=>by rw[hp];exact len (d+1) ws n Q q) λcdv A outer s H E hr=>(h (c0+d) d (E7 _ _) ih Sc.nd cdv A outer s H E hr).elim λT e=>⟨T,W (S d),e,body d⟩)
abbrev Ze:List Str:=["_law_script"]
theorem AR{rest:List Stmt}(k)(F:Fun K "law" "law" (c8 i) fa fd)(GT:FnOk P w K mg base dy 1 fT fdT Ze (p7 K))(bT:Binds K fdT Ze [])(mT:mg "_law_tape"=ae (.ref fT))(kT:C2 K (.ref fT)=ah)(hW:W (af::ae (.w .tp)::C0 (N.length-2) af) 0 pD)(e:gB (c8 i)=s0::rest)(h0:N.Nodup->∀(cdv:Aj) (A:Cj) (outer:List Env) (s:Ao) (H:Hp) (E:XK),Room k (A.deeper (D2 "law" (dh (c8 i)) s.heap.objs.size fa cdv))->PS (dM dy P w K mg base N "law" (dh (c8 i)) fa cdv A outer s H E).nox s0 (c9 (iC (p7 K) [] E0 (cK (b9 0) bF)) (fB 1)))(hN:∀v,start N [v]=ae v::af::C0 (N.length-2) af:=by intro _;rfl)(Sc:FnScope N Ze (dh (c8 i)):=by exact tK)
  (h:iH P w K mg base k "law" i fa N rest W:=by exact pX):FnOk P w K mg base dy (k+1) fa fd Ze (DL.spLaw K):=
 LO F Sc GT bT mT kT hN hW λcdv A outer s H E hr=>(h Sc.nd cdv A outer s H E hr).elim λT d=>⟨s0,rest,T,e,h0 Sc.nd cdv A outer s H E hr,d⟩
theorem Sz{b rest:List Stmt}(e:b=s1::s2::s3::rest)(h:PSs X (s1::s2::s3::rest) T):PSs X b T:=e▸h
theorem VC(hcan:Has P w K mg base kc "can_stand" ["head","notes","hands"] tJ)(hline:Has P w K mg base kl "line_read" ["line","words"] sG)(F:Fun K "put_line" "put_line" Je fp fdp)(mp:mg "put_line"=ae (.ref fp))(kp:C2 K (.ref fp)=ah)(bp:Binds K fdp Zj [])
  (ze:mg "enumerate"=af)  (k1:kc<=k) (k2:kl<=k) (k3:1<=k)
  (hs:(Zd:List Str).Nodup->∀(cdv:Aj)(A:Cj)(outer:List Env)(s:Ao)(H:Hp)(E:XK),Room k (A.deeper (D2 "read_plan" (dh (c8 95)) s.heap.objs.size fa cdv))->∃T,DSs (dM dy P w K mg base Zd "read_plan" (dh (c8 95)) fa cdv A outer s H E).nox ((gB (c8 95)).drop 3) T BF):
  iH P w K mg base k "read_plan" 95 fa Zd (gB (c8 95)) yh:=by
 intro nd cdv A outer s H E hr;obtain⟨Ts,ds⟩:=hs nd cdv A outer s H E hr;refine⟨JM K Ts,?_,V0 ds.sd⟩;refine Sz (by exact rfl) ?_;refine gh (iN (i:=1) nd rfl (.inl rfl) (lL dS)) ?_;refine gh (iN (i:=2) nd rfl (.inl rfl) (lL dS)) ?_;refine gh ?_ ds.ps;refine EU PassesOwn.never rfl ?i ?g ?b
 case i=>
  apply DI.pi;apply WH (K:=K)
  ·exact rfl
  ·exact ze
  ·exact ji 0
 case g=>
  apply DG.pg;apply IX (K:=K)
  ·exact zx (zu (i:=3) nd rfl (.inl rfl)) (zx (zu (i:=4) nd rfl (.inl rfl)) IB)
 case b=>
  refine gh (iN (i:=5) nd rfl (.inl rfl) ?s) (gh (lh (IL (Li ?c)) ss_no.ps oD) (ib (ka ?p)))
  case s=>exact(JJ (K:=K) (ji 4) CJ).pe
  case c=>
   apply DE.pe;apply mz hcan hr
   ·exact m3 (uz (K:=K) (ji 5) zF) (m3 (ji 1) (m3 (ji 2) xq))
   ·exact k1
   all_goals rfl
  case p=>
   refine rE (YX F) (hr.mono k3) rfl mp kp bp .nil sC (cH (uz (K:=K) (ji 5) zF).pe (cH ?l (cH (ji 1).pe (cH (ji 2).pe dS))))
   case l=>
    apply DE.pe;apply mz hline hr
    ·exact m3 (ji 3) (m3 (ji 5) xq)
    ·exact k2
    all_goals rfl
end
end Nb
namespace Nb
open PySem L2
section
variable{P:Bs}{w:B5}{K:Ag}{mg:Str->Option Aj}{base:Heap}
theorem Sj:FnScope Ze Ze (dh J4):=⟨rfl,rfl,rfl,by decide +kernel,rfl,by decide +kernel,by decide +kernel⟩
theorem Uq(F:Fun K "_law_tape" "_law_tape" J4 f fd):FnOk P w K mg base dy 1 f fd Ze (p7 K):=by
 refine F.ok Sj (λvs H Q E h=>?_) (λcdv A outer s H vs Q E hr h=>?_)
 ·obtain⟨a,ns,rfl,_⟩:=h;rfl
 ·obtain⟨a,ns,rfl,hS,hl,k⟩:=h;refine⟨_,ib (nL (lL (cH (t8 Hz (pv 0) yY (uO cC)) (cH cC (cH cC (cH (lL (cH sZ (cH sZ (cH sZ (cH cC (cH cC (cH cC (cH cC dS)))))))) dS)))))),?_⟩;refine⟨_,rfl,_,rfl,a,_,rfl,hS,λp hp=>⟨oR (by simp),λg hg=>⟨oR (by simp),λq hq=>?_⟩⟩⟩;rw[Xd (by rw[Ab];exact hl)]at hg hq ⊢;have hgp:g≠p:=λz=>by rw[z,bL]at hg;cases hg
  have hg0:H g=af:=by rw[bc hgp]at hg;exact hg
  have hqg:q≠g:=λz=>by rw[z,bL]at hq;cases hq
  rw[bc hqg]at hq;have hqp:q≠p:=λz=>by rw[z,bL]at hq;cases hq
  have hq0:H q=af:=by rw[bc hqp]at hq;exact hq
  refine k q ⟨p,g⟩ _ ⟨⟨0,0,bL,Int.le_refl _,Int.le_refl _⟩,by rw[bc hqp.symm,bc hgp.symm,bL],hl,(λz=>by rw[bc hqg.symm,bL];rfl),hqg.symm⟩ λb o e=>?_;rw[bc (b5 e hq0),bc (b5 e hg0),bc (b5 e hp)];exact e
abbrev Zk:List Str:=["_law_tape_here","_law_many"]
theorem scDraw:FnScope ["_law_tape_here","_law_many","_law_found","_law_spot","_law_cell","_law_mixed"] Zk (dh Kh):=⟨rfl,rfl,rfl,by decide +kernel,rfl,by decide +kernel,by decide +kernel⟩
theorem Ws{R:Prop}{G:Int->Prop}(use:(∀c,G c)->R)(fin:∀c,G c):R:=use fin
theorem Qg{R G:Prop}(use:G->R)(fin:G):R:=use fin
theorem MP(F:Fun K "_law_draw" "_law_draw" Kh f fd)(zl:mg "len"=af):FnOk P w K mg base dy 1 f fd Zk HJ:=by
 refine F.ok scDraw (λvs H Q E h=>?_) (λcdv A outer s H vs Q E hr h=>?_)
 ·obtain⟨t,l,ns,n,many,rfl,_⟩:=h;rfl
 ·obtain⟨t,l,ns,n,many,rfl,T,hn,hm0,hm1,k⟩:=h;obtain⟨a,b,ht,ha0,ha1⟩:=T.ob;have ntl:=T.ne;have hl:=T.ls;have hlen:=T.len;refine⟨_,gh (lh (jx op_gt (fR ix_list (pv 0) cC (λ_ _=>rfl)) cC (kJ _))
    (gh (iN (i:=2) scDraw.nd rfl (Dr rfl) (eO lg (fR ix_list (pv 0) cC (λ_ _=>rfl)) (pv 1)))
     (gh (ou (eO KN (fR ix_list (pv 0) cC (λ_ _=>rfl)) (pv 1)) (ua (pv 0) cC r8))
     (ib (nL (pv 2))))) oD)
   (gh (iN (i:=3) scDraw.nd rfl (Dr rfl) (fR ix_list (pv 0) cC (λ_ _=>rfl)))
   (gh (ou (eO op_add (pv 3) cC) (ua (pv 0) cC r8))
   (gh (iN (i:=4) scDraw.nd rfl (Dr rfl) cC)
   (gh (lh (jx op_gt (nc sq (by rfl) zl PySem.boot_len (cH (fR ix_list (pv 0) cC (λ_ _=>rfl)) dS)) cC (kJ _))
    (ib (iN (i:=4) scDraw.nd rfl (Dr rfl) (fR ix_list (fR ix_list (pv 0) cC (λ_ _=>rfl))
     (eO lg (pv 3) (nc sq (by rfl) zl PySem.boot_len (cH (fR ix_list (pv 0) cC (λ_ _=>rfl)) dS))) (λ_ _=>rfl)))) oD)
   (gh (lh (PW.pt (Ip (jx op_ge (pv 4) (eO NH cC cC) (kJ _))
     (Jr (jx op_lt (pv 3) (nc sq (by rfl) zl PySem.boot_len (cH (fR ix_list (pv 0) cC (λ_ _=>rfl)) dS)) (kJ _)))))
    (gh (ou (eO KN (pv 4) (pv 1)) (ua (pv 0) cC r8)) (ib (nL (eO lg (pv 4) (pv 1))))) oD)
   (gh (iN (i:=5) scDraw.nd rfl (Dr rfl) (eO lg (eO mO (eO op_add (eO op_add (eO lg (pv 4) cC) (eO mO (eO mO cC (pv 3)) (pv 3))) cC) cC) cC))
   (ib (nL (eO lg (eO lg (eO mO (eO lg (eO op_add (eO mO (pv 5) cC) (eO mO (pv 3) cC)) cC) cC) cC) (pv 1)))))))))),?_⟩
  refine⟨_,rfl,t,_,2,_,rfl,rfl,SqL.of ht,fX (j:=2) rfl,_,_,rfl,rfl,_,rfl,?_⟩;refine ki (λ_=>?_) (λ_=>?_)
  ·-- found=tape[2] % many;tape[2]=tape[2] // many;return found
   refine⟨_,rfl,t,_,2,_,rfl,rfl,SqL.of ht,fX (j:=2) rfl,_,rfl,_,_,rfl,rfl,hm0,?_⟩;refine⟨_,rfl,t,_,2,_,rfl,rfl,SqL.of ht,fX (j:=2) rfl,_,rfl,_,_,rfl,rfl,⟨hm0,hm1⟩,?_⟩;refine⟨_,rfl,t,_,2,2,rfl,rfl,ht,rfl,?_⟩;refine⟨_,rfl,?_⟩;refine k _ _ (Int.emod_nonneg _ ⋯) (G5 _ hm0) ⟨⟨a,b / many,bL,ha0,by omega⟩,by rw[bc ntl.symm];exact hl,hlen,(λz=>by rw[bc T.gne];exact T.ag z),T.gne⟩ Kp.tape
  ·-- spot=tape[1];tape[1]=spot+1;cell=0
   refine⟨_,rfl,t,_,1,_,rfl,rfl,SqL.of ht,fX (j:=1) rfl,?_⟩;refine⟨_,rfl,_,_,rfl,rfl,_,rfl,t,_,1,1,rfl,rfl,ht,rfl,?_⟩;have ht1:∀o,upd H t o t=ae o:=λo=>bL;have hl1:∀o,upd H t o l.s=ae (.lst (ns.map V.int)):=λo=>by rw[bc ntl.symm];exact hl
   generalize hH1:upd H t (.lst (((.ref l.s::.int a::.int b::jR l:List V)).set 1 (.int (a+1))))=H1;have g1:H1 t=ae (.lst (.ref l.s::.int (a+1)::.int b::jR l)):=by rw[<-hH1];exact bL
   have g2:H1 l.s=ae (.lst (ns.map V.int)):=by rw[<-hH1];exact hl1 _
   have g3:Kp t H H1:=by rw[<-hH1];exact Kp.tape
   have g4:nT=ah->H1 l.g=ae (.lst sR):=λz=>by rw[<-hH1,bc T.gne];exact T.ag z
   refine⟨_,rfl,t,_,0,_,rfl,rfl,SqL.of g1,fX (j:=0) rfl,l.s,_,rfl,.inl (SqL.of g2),_,_,rfl,rfl,_,rfl,?_⟩;apply Ws
   case use=>
    intro fin;refine ki (λhp=>?_) (λ_=>?_)
    ·have hpos:(0:Int) < ((ns.map V.int).length:Int):=of_decide_eq_true hp;obtain⟨v,hv,hm⟩:=SW (xs:=ns.map V.int) (r:=a % ((ns.map V.int).length:Int)) (Int.emod_nonneg _ ⋯) (G5 _ hpos);obtain⟨c,_,rfl⟩:=Bi.mp hm;refine⟨_,rfl,t,_,0,_,rfl,rfl,SqL.of g1,fX (j:=0) rfl,_,rfl,_,rfl,t,_,0,_,rfl,rfl,SqL.of g1,fX (j:=0) rfl,l.s,_,rfl,.inl (SqL.of g2),_,_,rfl,rfl,hpos,l.s,_,_,.int c,rfl,rfl,SqL.of g2,hv,?_⟩;exact fin c
    ·exact fin 0
   case fin=>
    intro c;refine⟨_,rfl,_,_,rfl,rfl,⟨by decide,by decide,by decide⟩,_,_,rfl,rfl,_,rfl,?_⟩;apply Qg
    case use=>
     intro fin;refine ki (λ_=>?_) (λ_=>?_)
     ·refine⟨_,rfl,_,rfl,t,_,0,_,rfl,rfl,SqL.of g1,fX (j:=0) rfl,l.s,_,rfl,.inl (SqL.of g2),_,_,rfl,rfl,_,rfl,?_⟩;refine ki (λ_=>?_) (λ_=>fin);refine⟨_,rfl,_,rfl,_,_,rfl,rfl,⟨hm0,hm1⟩,_,rfl,t,_,2,2,rfl,rfl,g1,rfl,_,rfl,_,rfl,_,_,rfl,rfl,hm0,?_⟩;exact k _ _ (Int.emod_nonneg _ ⋯) (G5 _ hm0) ⟨⟨a+1,_,bL,by omega,by omega⟩,by rw[bc ntl.symm];exact g2,hlen,(λz=>by rw[bc T.gne];exact g4 z),T.gne⟩ (g3.trans Kp.tape)
     ·exact vX fin
    case fin=>
     refine⟨_,rfl,_,_,rfl,rfl,(by show(0:Int) < 999331;decide),_,rfl,_,_,rfl,rfl,.inl ⟨by decide,by decide⟩,_,rfl,_,_,rfl,rfl,.inl ⟨by omega,by omega⟩,_,_,rfl,rfl,_,_,rfl,rfl,_,_,rfl,rfl,.inr ⟨by decide,by decide⟩,_,_,rfl,rfl,(by show(0:Int) < 999961;decide),?_⟩;refine⟨_,rfl,_,_,rfl,rfl,.inr ⟨by decide,by decide⟩,_,rfl,_,_,rfl,rfl,.inr ⟨by decide,by decide⟩,_,_,rfl,rfl,_,_,rfl,rfl,(by show(0:Int) < 999953;decide),_,_,rfl,rfl,.inr ⟨by decide,by decide⟩,_,_,rfl,rfl,(by show(0:Int) < 524287;decide),_,rfl,_,_,rfl,rfl,hm0,?_⟩;exact k _ _ (Int.emod_nonneg _ ⋯) (G5 _ hm0) ⟨⟨a+1,b,g1,by omega,by omega⟩,g2,hlen,g4,T.gne⟩ g3
end
end Nb
namespace Nb
open PySem L2 DL
theorem zE(P):(zL.map λx=>PySem.W.nsIn (KK P) Dz x)=zL.map λ_=>ae af:=by kernel_rfl
section
variable{P:Params}{h:Heap}{mg:Str->Option Aj}(X:(KK P).In h)(G:h.Ns Dz mg)
include X G
theorem Hq(j:Nat)(d:Ds)(e:dL[j]?=ae d):(Fun (KK P) d.x d.x (c8 d.i) d.f (lY d)/\mg d.x=ae (.ref d.f))/\C2 (KK P) (.ref d.f)=ah:=by
 have q:=KH (MA P) e;obtain⟨q1,q2⟩:=Prod.mk.inj q;obtain⟨q2,q3⟩:=Prod.mk.inj q2;have k:C2 (KK P) (.ref d.f)=ah:=by
  unfold C2;simp only[q2]
 exact⟨⟨Sx q2 q3 k,Ci X G q1⟩,k⟩
theorem zK(x)(h:x∈zL):mg x=af:=by
 obtain⟨j,e⟩:=List.mem_iff_getElem?.mp h;exact PySem.W.mg_none_of X G (KH (zE P) e)
end
abbrev pR:Bs:=PySem.W.OpenLaw.prog PySem.Challenge.rw_noteboard_k15_whole_texts_there_and_back
structure Cv where
 P:Bs
 w:B5
 K:Ag
 mg:Str->Option Aj
 base:Heap
abbrev HH(c:Cv)(k:Nat)(x:Str)(ps:List Str)(S:bx):Prop:=Has c.P c.w c.K c.mg c.base k x ps S
abbrev ik(c:Cv):Prop:=HH c 1 "_law_draw" Zk cU
abbrev qu(c:Cv):Prop:=HH c 1 "is_whole" Zb (aI jk)
abbrev rH(c:Cv):Prop:=HH c 1 "is_letters" ["thing","longest"] lT
abbrev sN(c:Cv):Prop:=HH c 2 "is_word" Zb (aI (aO 8))
abbrev AK(c:Cv):Prop:=HH c 2 "is_number" Zb (aI jh)
abbrev rb(c:Cv):Prop:=HH c 3 "is_value" Zb (aI ck)
abbrev pE(c:Cv):Prop:=HH c 2 "is_name" Zb (aI (aO 4))
abbrev sx(c:Cv):Prop:=HH c 4 "is_row" Zb (aI eB)
abbrev oN(c:Cv):Prop:=HH c 2 "is_age" Zb (aI cj)
abbrev yI(c:Cv):Prop:=HH c 5 "is_note" Zb (aI iz)
abbrev ja(c:Cv):Prop:=HH c 1 "is_headed" ["thing","head","many"] ft
abbrev oJ(c:Cv):Prop:=HH c 3 "is_named" ["thing","head"] jb
abbrev mN(c:Cv):Prop:=HH c 4 "is_term" Zb (aI cv)
abbrev uW(c:Cv):Prop:=HH c 5 "is_pattern_field" Zb (aI dJ)
abbrev uJ(c:Cv):Prop:=HH c 5 "is_template_field" Zb (aI eR)
abbrev rA(c:Cv):Prop:=HH c 1 "has_field_count" Zb (aI fh)
abbrev m9(c:Cv):Prop:=HH c 6 "is_pattern" Zb (aI bY)
abbrev qT(c:Cv):Prop:=HH c 6 "is_template" Zb (aI ek)
abbrev tW(c:Cv):Prop:=HH c 1 "binds" ["pattern"] lX
abbrev qm(c:Cv):Prop:=HH c 2 "is_block_number" Zb (aI fj)
abbrev BQ(c:Cv):Prop:=HH c 7 "is_lay" Zb (aI gX)
abbrev yq(c:Cv):Prop:=HH c 7 "is_take" Zb (aI (gV "take"))
abbrev yy(c:Cv):Prop:=HH c 7 "is_read" Zb (aI (gV "read"))
abbrev yU(c:Cv):Prop:=HH c 7 "is_look" Zb (aI lW)
abbrev uM(c:Cv):Prop:=HH c 5 "is_same" Zb (aI iX)
abbrev wA(c:Cv):Prop:=HH c 3 "is_go" Zb (aI lU)
abbrev zM(c:Cv):Prop:=HH c 8 "is_act" Zb (aI cP)
abbrev sQ(c:Cv):Prop:=HH c 3 "is_wanted" Zb (aI fF)
abbrev zc(c:Cv):Prop:=HH c 9 "is_acts" Zb (aI jc)
abbrev zO(c:Cv):Prop:=HH c 10 "is_block" Zb (aI gS)
abbrev yM(c:Cv):Prop:=HH c 1 "shown_field" ["field"] uv
abbrev BE(c:Cv):Prop:=HH c 1 "shown_age" ["age"] zq
abbrev wt(c:Cv):Prop:=HH c 1 "shown_block" ["block"] sU
abbrev wm(c:Cv):Prop:=HH c 1 "is_figures" ["text"] si
abbrev qk(c:Cv):Prop:=HH c 2 "number_read" ["text"] ph
abbrev tM(c:Cv):Prop:=HH c 3 "value_read" ["text"] sI
abbrev vz(c:Cv):Prop:=HH c 4 "field_read" ["text"] wH
abbrev vQ(c:Cv):Prop:=HH c 3 "age_read" ["text"] AV
abbrev vT(c:Cv):Prop:=HH c 3 "block_read" ["text"] yK
abbrev vL(c:Cv):Prop:=HH c 2 "known_at" ["program","block","place"] wF
abbrev ub(c:Cv):Prop:=HH c 1 "fields_of" ["act"] uu
abbrev xb(c:Cv):Prop:=HH c 2 "first_unknown" ["fields","known"] vw
abbrev uU(c:Cv):Prop:=HH c 1 "can_lead" ["program","block","known"] sV
abbrev sk(c:Cv):Prop:=HH c 3 "wrong_word" ["program","block","place"] mU
abbrev wD(c:Cv):Prop:=HH c 4 "has_right_acts" ["program","block"] rD
abbrev vO(c:Cv):Prop:=HH c 11 "is_blocks" Zb (aI i4)
abbrev vE(c:Cv):Prop:=HH c 12 "is_program" Zb qJ
abbrev xk(c:Cv):Prop:=HH c 13 "is_programs" Zb xV
abbrev wN(c:Cv):Prop:=HH c 6 "is_plan_notes" Zb (aI js)
abbrev xX(c:Cv):Prop:=HH c 14 "is_plan" Zb o6
abbrev sX(c:Cv):Prop:=HH c 2 "aged_words" ["age"] pj
abbrev uP(c:Cv):Prop:=HH c 3 "shown_note" ["note"] zo
abbrev yL(c:Cv):Prop:=HH c 3 "shown_act" ["act"] sE
abbrev AY(c:Cv):Prop:=HH c 4 "shown_program" ["program"] zj
abbrev qj(c:Cv):Prop:=HasN c.P c.w c.K c.mg c.base 5 "shown_plan" ["plan"] iZ
abbrev sv(c:Cv):Prop:=HH c 1 "lacks_block" ["hands"] mW
abbrev AD(c:Cv):Prop:=HH c 2 "can_stand" ["head","notes","hands"] tJ
abbrev yS(c:Cv):Prop:=HH c 5 "part_read" ["head","word"] AG
abbrev vq(c:Cv):Prop:=HH c 7 "can_begin" ["head","parts"] tG
abbrev yR(c:Cv):Prop:=HH c 8 "parts_read" ["words"] xY
abbrev zX(c:Cv):Prop:=HH c 4 "tail_read" ["words","many"] vj
abbrev yr(c:Cv):Prop:=HH c 1 "line_made" ["head","parts","tail"] vD
abbrev wV(c:Cv):Prop:=HH c 9 "line_read" ["line","words"] sG
abbrev xQ(c:Cv):Prop:=HH c 1 "program_made" ["blocks"] rS
abbrev AM(c:Cv):Prop:=HH c 4 "refuse_wrong_block" ["program","block","line"] BP
abbrev yJ(c:Cv):Prop:=HH c 5 "refuse_wrong" ["plan"] mi
abbrev mZ(c:Cv):Prop:=HH c 2 "_law_value" Zg kH
abbrev qi(c:Cv):Prop:=HH c 2 "_law_size" Zg nN
abbrev rO(c:Cv):Prop:=HH c 2 "_law_age" Zg nX
abbrev yt(c:Cv):Prop:=HH c 3 "_law_pattern" Zh zh
abbrev zz(c:Cv):Prop:=HH c 3 "_law_template" Zh yT
abbrev zk(c:Cv):Prop:=HH c 3 "_law_term" Zh tZ
abbrev uX(c:Cv):Prop:=HH c 4 "_law_act" ["_law_tape_here","_law_known","_law_open_ones"] oi
abbrev zr(c:Cv):Prop:=HH c 5 "_law_program" Zg yz
abbrev vZ(c:Cv):Prop:=HH c 3 "_law_notes" ["_law_tape_here","_law_most"] ud
abbrev BL(c:Cv):Prop:=HH c 6 "_law_plan" Zg uI
abbrev vN(c:Cv):Prop:=HH c 1 "_law_field_word" ["_law_field"] xA
abbrev xF(c:Cv):Prop:=HH c 2 "_law_act_line" ["_law_act_here"] rL
abbrev vi(c:Cv):Prop:=HH c 3 "_law_lines" ["_law_plan_here"] wO
abbrev xI(c:Cv):Prop:=HH c 11 "_law_other_in" ["_law_tape_here","_law_thing"] (kx 9)
abbrev BG(c:Cv):Prop:=HH c 11 "_law_there_and_back" ["_law_plan_here"] yk
abbrev yQ(c:Cv):Prop:=HH c 11 "_law_parts_right" ["_law_plan_here"] lN
abbrev nU(c:Cv):Prop:=HH c 10 "read_plan" ["lines"] kg
section
variable{c:Cv}(F:∀(j:Nat) (d:Ds),dL[j]?=ae d->(Fun c.K d.x d.x (c8 d.i) d.f (lY d)/\c.mg d.x=ae (.ref d.f))/\C2 c.K (.ref d.f)=ah)(z:∀x∈zL,c.mg x=af)(u0:c.mg "AGE_SIGN"=ae (.str "@" 477))(u1:c.mg "BLOCK_SIGN"=ae (.str ">" 479))(u2:c.mg "GREATEST_AGE"=ae (.int 20 197))(u3:c.mg "GREATEST_NUMBER"=ae (.int 99 195))(u4:c.mg "LONGEST_NAME"=ae (.int 4 191))(u5:c.mg "LONGEST_ROW"=ae (.int 4 193))(u6:c.mg "LONGEST_WORD"=ae (.int 8 189))(u7:c.mg "MOST_ACTS"=ae (.int 8 331))(u8:c.mg "MOST_BLOCKS"=ae (.int 6 550))(u9:c.mg "MOST_FIELDS"=ae (.int 4 262))(u10:c.mg "MOST_NOTES"=ae (.int 12 554))(u11:c.mg "MOST_PROGRAMS"=ae (.int 5 552))(u12:c.mg "MOST_WANTED"=ae (.int 4 329))(u13:c.mg "ACT_HEADS"=ae (.ref 366))(u14:∀H,SqT c.K H 366 ((Za:List Str).map V.str))(u15:c.mg "AGED"=ae (.ref 367))(u16:∀H,SqT c.K H 367 ((["note","lay"]:List Str).map V.str))(u17:c.mg "GETTING"=ae (.ref 299))(u18:∀H,SqT c.K H 299 ((Zf:List Str).map V.str))(u19:c.mg "LEADING"=ae (.ref 300))(u20:∀H,SqT c.K H 300 ((Zc:List Str).map V.str))(u21:c.mg "BARE_SIGNS"=ae (.ref 236))(u22:e9 c.K 236 [("any","?"),("word","$"),("number","#")])(u23:c.mg "NAME_SIGNS"=ae (.ref 237))(u24:e9 c.K 237 [("bind","?"),("as","="),("next","+")])(u25:c.mg "LEAST_PARTS"=ae (.ref 368))(u26:kd c.K 368 [("note",1),("hand",0),("block",0),("lay",1),("take",1),("read",1),("look",1),("same",2),("go",0)])(u27:gm c.P c.w c.K 236 ["any","word","number"])(u28:gm c.P c.w c.K 237 ["bind","as","next"])
include F z u0 u1 u2 u3 u4 u5 u6 u7 u8 u9 u10 u11 u12 u13 u14 u15 u16 u17 u18 u19 u20 u21 u22 u23 u24 u25 u26 u27 u28
theorem YI:ik c:=Has.mk' (F 68 _ rfl).1.1 (F 68 _ rfl).1.2 (mG (F 68 _ rfl).1.1) (XW (MP (F 68 _ rfl).1.1 (zU z ∅)))
theorem Sv:qu c:=aE (i:=6) 0 1 "is_whole" (F 0 _ rfl).1 (len:=Yl) LU
theorem UD:rH c:=aE (i:=7) 0 2 "is_letters" (F 1 _ rfl).1 (len:=Zq) ZC
theorem Vo(h0:rH c):sN c:=aE (i:=8) 1 1 "is_word" (F 2 _ rfl).1 (len:=Qc) Zl
theorem S5(h0:qu c):AK c:=aE (i:=9) 1 1 "is_number" (F 3 _ rfl).1 (len:=VS) Xv
theorem Nh(h0:AK c)(h1:sN c):rb c:=aE (i:=10) 2 1 "is_value" (F 4 _ rfl).1 (len:=Wy) RJ
theorem QZ(h0:rH c):pE c:=aE (i:=11) 1 1 "is_name" (F 5 _ rfl).1 (len:=Zp) TU
theorem Wc(h0:rb c):sx c:=aE (i:=12) 3 1 "is_row" (F 6 _ rfl).1 (len:=XY) SK
theorem ZH(h0:qu c):oN c:=aE (i:=13) 1 1 "is_age" (F 7 _ rfl).1 (len:=LR) Ra
theorem MO(h0:oN c)(h1:sx c):yI c:=aE (i:=14) 4 1 "is_note" (F 8 _ rfl).1 (len:=P9) Pq
theorem M6:ja c:=aE (i:=17) 0 3 "is_headed" (F 9 _ rfl).1 (len:=Y5) W3
theorem UJ(h0:ja c)(h1:pE c):oJ c:=aE (i:=18) 2 2 "is_named" (F 10 _ rfl).1 (len:=Nr) Uk
theorem R9(h0:ja c)(h1:oJ c)(h2:rb c):mN c:=aE (i:=19) 3 1 "is_term" (F 11 _ rfl).1 (len:=Yy) Yc
theorem MD(h0:ja c)(h1:oJ c)(h2:mN c):uW c:=aE (i:=20) 4 1 "is_pattern_field" (F 12 _ rfl).1 (len:=QR) Mx
theorem XH(h0:oJ c)(h1:mN c):uJ c:=aE (i:=21) 4 1 "is_template_field" (F 13 _ rfl).1 (len:=OZ) L0
theorem MF:rA c:=aE (i:=22) 0 1 "has_field_count" (F 14 _ rfl).1 (len:=W7) T2
theorem ZJ(h0:rA c)(h1:uW c):m9 c:=aE (i:=23) 5 1 "is_pattern" (F 15 _ rfl).1 (len:=TY) Rt
theorem OU(h0:rA c)(h1:uJ c):qT c:=aE (i:=24) 5 1 "is_template" (F 16 _ rfl).1 (len:=S3) OF
theorem M4:tW c:=aE (i:=25) 0 1 "binds" (F 17 _ rfl).1 Rr
theorem So(h0:qu c):qm c:=aE (i:=29) 1 1 "is_block_number" (F 18 _ rfl).1 (len:=Wa) YB
theorem Ry(h0:oN c)(h1:ja c)(h2:qT c):BQ c:=aE (i:=30) 6 1 "is_lay" (F 19 _ rfl).1 (len:=O0) Qk
theorem TF(h0:ja c)(h1:m9 c):yq c:=aE (i:=31) 6 1 "is_take" (F 20 _ rfl).1 (len:=PV) Wb
theorem Xa(h0:ja c)(h1:m9 c):yy c:=aE (i:=32) 6 1 "is_read" (F 21 _ rfl).1 (len:=L7) Ql
theorem Qf(h0:qm c)(h1:ja c)(h2:m9 c):yU c:=aE (i:=33) 6 1 "is_look" (F 22 _ rfl).1 (len:=SG) Yi
theorem ZN(h0:qm c)(h1:ja c)(h2:mN c):uM c:=aE (i:=34) 4 1 "is_same" (F 23 _ rfl).1 (len:=OL) Xx
theorem YO(h0:qm c)(h1:ja c):wA c:=aE (i:=35) 2 1 "is_go" (F 24 _ rfl).1 (len:=Pl) ZG
theorem VO(h0:wA c)(h1:BQ c)(h2:yU c)(h3:yy c)(h4:uM c)(h5:yq c):zM c:=aE (i:=36) 7 1 "is_act" (F 25 _ rfl).1 (len:=Va) RY
theorem Q2(h0:pE c):sQ c:=aE (i:=37) 2 1 "is_wanted" (F 26 _ rfl).1 (len:=OP) RQ
theorem SJ(h0:zM c):zc c:=aE (i:=38) 8 1 "is_acts" (F 27 _ rfl).1 (len:=YJ) Mb
theorem Rq(h0:zc c)(h1:sQ c):zO c:=aE (i:=39) 9 1 "is_block" (F 28 _ rfl).1 (len:=Ul) V1
theorem V6:yM c:=aE (i:=48) 0 1 "shown_field" (F 29 _ rfl).1 Mc
theorem Ov:BE c:=aE (i:=49) 0 1 "shown_age" (F 30 _ rfl).1 Ui
theorem Rx:wt c:=aE (i:=50) 0 1 "shown_block" (F 31 _ rfl).1 X4
theorem QF:wm c:=aE (i:=51) 0 1 "is_figures" (F 32 _ rfl).1 Se
theorem Vt(h0:wm c):qk c:=aE (i:=52) 1 1 "number_read" (F 33 _ rfl).1 Ys
theorem Mn(h0:sN c)(h1:qk c):tM c:=aE (i:=53) 2 1 "value_read" (F 34 _ rfl).1 OE
theorem Sq(h0:pE c)(h1:tM c):vz c:=aE (i:=54) 3 1 "field_read" (F 35 _ rfl).1 Qe
theorem Ud(h0:oN c)(h1:qk c):vQ c:=aE (i:=55) 2 1 "age_read" (F 36 _ rfl).1 LP
theorem Su(h0:qk c):vT c:=aE (i:=56) 2 1 "block_read" (F 37 _ rfl).1 Xs
theorem Vm(h0:tW c):vL c:=aE (i:=63) 1 3 "known_at" (F 38 _ rfl).1 Xl
theorem Wm:ub c:=aE (i:=64) 0 1 "fields_of" (F 39 _ rfl).1 Qt
theorem Nw(h0:tW c):xb c:=aE (i:=65) 1 2 "first_unknown" (F 40 _ rfl).1 NY
theorem Xu:uU c:=aE (i:=66) 0 3 "can_lead" (F 41 _ rfl).1 Vc
theorem Nd(h0:uU c)(h1:ub c)(h2:xb c)(h3:vL c):sk c:=aE (i:=67) 2 3 "wrong_word" (F 42 _ rfl).1 U6
theorem PX(h0:sk c):wD c:=aE (i:=68) 3 2 "has_right_acts" (F 43 _ rfl).1 XZ
theorem Vi(h0:zO c):vO c:=aE (i:=69) 10 1 "is_blocks" (F 44 _ rfl).1 (len:=VA) SX
theorem Sw(h0:wD c)(h1:vO c):vE c:=aE (i:=70) 11 1 "is_program" (F 45 _ rfl).1 QY
theorem U0(h0:vE c):xk c:=aE (i:=71) 12 1 "is_programs" (F 46 _ rfl).1 Ti
theorem Py(h0:yI c):wN c:=aE (i:=72) 5 1 "is_plan_notes" (F 47 _ rfl).1 (len:=SO) XI
theorem YS(h0:wN c)(h1:xk c):xX c:=aE (i:=73) 13 1 "is_plan" (F 48 _ rfl).1 SY
theorem ZA(h0:BE c):sX c:=aE (i:=78) 1 1 "aged_words" (F 49 _ rfl).1 ZF
theorem Qu(h0:sX c):uP c:=aE (i:=79) 2 1 "shown_note" (F 50 _ rfl).1 X9
theorem Mu(h0:sX c)(h1:ub c)(h2:wt c)(h3:yM c):yL c:=aE (i:=80) 2 1 "shown_act" (F 51 _ rfl).1 Qi
theorem LL(h0:yL c):AY c:=aE (i:=81) 3 1 "shown_program" (F 52 _ rfl).1 Zt
theorem Y6(h0:uP c)(h1:AY c):qj c:=vk (i:=82) 4 1 "shown_plan" (F 53 _ rfl).1 Tz
theorem WR:sv c:=aE (i:=84) 0 1 "lacks_block" (F 55 _ rfl).1 Ut
theorem UT(h0:sv c):AD c:=aE (i:=83) 1 3 "can_stand" (F 54 _ rfl).1 Mj
theorem LZ(h0:vz c)(h1:tM c):yS c:=aE (i:=85) 4 2 "part_read" (F 56 _ rfl).1 Pb
theorem S8(h0:m9 c)(h1:sx c)(h2:qT c)(h3:mN c)(h4:sQ c):vq c:=aE (i:=86) 6 2 "can_begin" (F 57 _ rfl).1 MU
theorem LY(h0:vq c)(h1:yS c):yR c:=aE (i:=87) 7 1 "parts_read" (F 58 _ rfl).1 Us
theorem V8(h0:vQ c)(h1:vT c):zX c:=aE (i:=88) 3 2 "tail_read" (F 59 _ rfl).1 Ro
theorem Nf:yr c:=aE (i:=89) 0 3 "line_made" (F 60 _ rfl).1 WV
theorem Wk(h0:yr c)(h1:yR c)(h2:zX c):wV c:=aE (i:=90) 8 2 "line_read" (F 61 _ rfl).1 R8
theorem VU:xQ c:=aE (i:=92) 0 1 "program_made" (F 63 _ rfl).1 Vq
theorem Yg(h0:sk c):AM c:=aE (i:=93) 3 3 "refuse_wrong_block" (F 64 _ rfl).1 XM
theorem Wx(h0:AM c):yJ c:=aE (i:=94) 4 1 "refuse_wrong" (F 65 _ rfl).1 Sh
theorem Mh(h0:AD c)(h1:wV c)(h2:sv c)(h3:xQ c)(h4:yJ c):nU c:=aE (i:=95) 9 1 "read_plan" (F 66 _ rfl).1 NG (h:=VC h0 h1 (F 62 _ rfl).1.1 (F 62 _ rfl).1.2 (F 62 _ rfl).2 (mG (F 62 _ rfl).1.1) (zU z ∅) ∎ ∎ ∎ pX)
theorem Ox(h0:ik c):mZ c:=aE (i:=99) 1 1 "_law_value" (F 69 _ rfl).1 SN
theorem Oa(h0:ik c):qi c:=aE (i:=100) 1 1 "_law_size" (F 70 _ rfl).1 SA
theorem NU(h0:ik c):rO c:=aE (i:=101) 1 1 "_law_age" (F 71 _ rfl).1 Q8
theorem OY(h0:ik c)(h1:qi c)(h2:mZ c):yt c:=aE (i:=102) 2 2 "_law_pattern" (F 72 _ rfl).1 Yb
theorem NV(h0:ik c)(h1:qi c)(h2:mZ c):zz c:=aE (i:=103) 2 2 "_law_template" (F 73 _ rfl).1 We
theorem Zx(h0:ik c)(h1:mZ c):zk c:=aE (i:=104) 2 2 "_law_term" (F 74 _ rfl).1 Vu
theorem V4(h0:rO c)(h1:ik c)(h2:yt c)(h3:zz c)(h4:zk c):uX c:=aE (i:=105) 3 3 "_law_act" (F 75 _ rfl).1 RG
theorem W9(h0:uX c)(h1:ik c):zr c:=aE (i:=106) 4 1 "_law_program" (F 76 _ rfl).1 VB
theorem TV(h0:rO c)(h1:ik c)(h2:qi c)(h3:mZ c):vZ c:=aE (i:=107) 2 2 "_law_notes" (F 77 _ rfl).1 Xi
theorem LI(h0:ik c)(h1:vZ c)(h2:zr c):BL c:=aE (i:=108) 5 1 "_law_plan" (F 78 _ rfl).1 L3
theorem Wt:vN c:=aE (i:=109) 0 1 "_law_field_word" (F 79 _ rfl).1 Tj
theorem MJ(h0:vN c):xF c:=aE (i:=110) 1 1 "_law_act_line" (F 80 _ rfl).1 WM
theorem Ue(h0:xF c):vi c:=aE (i:=111) 2 1 "_law_lines" (F 81 _ rfl).1 UR
theorem Zu(h0:ik c):xI c:=AH (S:=kx) (i:=112) 2 "_law_other_in" (F 82 _ rfl).1 QA (λ_ _ _ h=>h) MK 9
theorem MV(h0:vi c)(h1:nU c)(h2:qj c):BG c:=aE (i:=113) 10 1 "_law_there_and_back" (F 83 _ rfl).1 RR
theorem Uz(h0:nU c)(h1:qj c):yQ c:=aE (i:=114) 10 1 "_law_parts_right" (F 84 _ rfl).1 OG
theorem Sy(h0:xI c)(h1:yQ c)(h2:BL c)(h3:BG c)(h4:xX c)(h5:nU c)(h6:qj c):FnOk c.P c.w c.K c.mg c.base dy 15 (Ds.f ⟨115,"law",988,460,1,595,ah,997,6⟩) (lY ⟨115,"law",988,460,1,595,ah,997,6⟩) Ze (DL.spLaw c.K):=by
 have bT:=mG (ps:=Ze) (F 67 _ rfl).1.1;have GT:=Uq (P:=c.P) (w:=c.w) (mg:=c.mg) (base:=c.base) (F 67 _ rfl).1.1;exact AR (i:=115) (N:=Zi) 14 (F 85 _ rfl).1.1 GT bT (F 67 _ rfl).1.2 (F 67 _ rfl).2 Mk rfl λnd cdv A outer s H E hr=>iN (i:=1) nd rfl (Dr rfl) (rE GT (hr.mono ∎) rfl (F 67 _ rfl).1.2 (F 67 _ rfl).2 bT .nil sC (cH (pv 0) dS))
end
theorem YM(c:Cv)(F:∀(j:Nat) (d:Ds),dL[j]?=ae d->(Fun c.K d.x d.x (c8 d.i) d.f (lY d)/\c.mg d.x=ae (.ref d.f))/\C2 c.K (.ref d.f)=ah)(z:∀x∈zL,c.mg x=af)(u0:c.mg "AGE_SIGN"=ae (.str "@" 477))(u1:c.mg "BLOCK_SIGN"=ae (.str ">" 479))(u2:c.mg "GREATEST_AGE"=ae (.int 20 197))(u3:c.mg "GREATEST_NUMBER"=ae (.int 99 195))(u4:c.mg "LONGEST_NAME"=ae (.int 4 191))(u5:c.mg "LONGEST_ROW"=ae (.int 4 193))(u6:c.mg "LONGEST_WORD"=ae (.int 8 189))(u7:c.mg "MOST_ACTS"=ae (.int 8 331))(u8:c.mg "MOST_BLOCKS"=ae (.int 6 550))(u9:c.mg "MOST_FIELDS"=ae (.int 4 262))(u10:c.mg "MOST_NOTES"=ae (.int 12 554))(u11:c.mg "MOST_PROGRAMS"=ae (.int 5 552))(u12:c.mg "MOST_WANTED"=ae (.int 4 329))(u13:c.mg "ACT_HEADS"=ae (.ref 366))(u14:∀H,SqT c.K H 366 ((Za:List Str).map V.str))(u15:c.mg "AGED"=ae (.ref 367))(u16:∀H,SqT c.K H 367 ((["note","lay"]:List Str).map V.str))(u17:c.mg "GETTING"=ae (.ref 299))(u18:∀H,SqT c.K H 299 ((Zf:List Str).map V.str))(u19:c.mg "LEADING"=ae (.ref 300))(u20:∀H,SqT c.K H 300 ((Zc:List Str).map V.str))(u21:c.mg "BARE_SIGNS"=ae (.ref 236))(u22:e9 c.K 236 [("any","?"),("word","$"),("number","#")])(u23:c.mg "NAME_SIGNS"=ae (.ref 237))(u24:e9 c.K 237 [("bind","?"),("as","="),("next","+")])(u25:c.mg "LEAST_PARTS"=ae (.ref 368))(u26:kd c.K 368 [("note",1),("hand",0),("block",0),("lay",1),("take",1),("read",1),("look",1),("same",2),("go",0)])(u27:gm c.P c.w c.K 236 ["any","word","number"])(u28:gm c.P c.w c.K 237 ["bind","as","next"]):FnOk c.P c.w c.K c.mg c.base dy 15 (Ds.f ⟨115,"law",988,460,1,595,ah,997,6⟩) (lY ⟨115,"law",988,460,1,595,ah,997,6⟩) Ze (DL.spLaw c.K):=by
 have a__law_draw:ik c:=by apply YI<;>with_reducible assumption
 have a_is_whole:qu c:=by apply Sv<;>with_reducible assumption
 have a_is_letters:rH c:=by apply UD<;>with_reducible assumption
 have a_is_word:sN c:=by apply Vo<;>with_reducible assumption
 have a_is_number:AK c:=by apply S5<;>with_reducible assumption
 have a_is_value:rb c:=by apply Nh<;>with_reducible assumption
 have a_is_name:pE c:=by apply QZ<;>with_reducible assumption
 have a_is_row:sx c:=by apply Wc<;>with_reducible assumption
 have a_is_age:oN c:=by apply ZH<;>with_reducible assumption
 have a_is_note:yI c:=by apply MO<;>with_reducible assumption
 have a_is_headed:ja c:=by apply M6<;>with_reducible assumption
 have a_is_named:oJ c:=by apply UJ<;>with_reducible assumption
 have a_is_term:mN c:=by apply R9<;>with_reducible assumption
 have a_is_pattern_field:uW c:=by apply MD<;>with_reducible assumption
 have a_is_template_field:uJ c:=by apply XH<;>with_reducible assumption
 have a_has_field_count:rA c:=by apply MF<;>with_reducible assumption
 have a_is_pattern:m9 c:=by apply ZJ<;>with_reducible assumption
 have a_is_template:qT c:=by apply OU<;>with_reducible assumption
 have a_binds:tW c:=by apply M4<;>with_reducible assumption
 have a_is_block_number:qm c:=by apply So<;>with_reducible assumption
 have a_is_lay:BQ c:=by apply Ry<;>with_reducible assumption
 have a_is_take:yq c:=by apply TF<;>with_reducible assumption
 have a_is_read:yy c:=by apply Xa<;>with_reducible assumption
 have a_is_look:yU c:=by apply Qf<;>with_reducible assumption
 have a_is_same:uM c:=by apply ZN<;>with_reducible assumption
 have a_is_go:wA c:=by apply YO<;>with_reducible assumption
 have a_is_act:zM c:=by apply VO<;>with_reducible assumption
 have a_is_wanted:sQ c:=by apply Q2<;>with_reducible assumption
 have a_is_acts:zc c:=by apply SJ<;>with_reducible assumption
 have a_is_block:zO c:=by apply Rq<;>with_reducible assumption
 have a_shown_field:yM c:=by apply V6<;>with_reducible assumption
 have a_shown_age:BE c:=by apply Ov<;>with_reducible assumption
 have a_shown_block:wt c:=by apply Rx<;>with_reducible assumption
 have a_is_figures:wm c:=by apply QF<;>with_reducible assumption
 have a_number_read:qk c:=by apply Vt<;>with_reducible assumption
 have a_value_read:tM c:=by apply Mn<;>with_reducible assumption
 have a_field_read:vz c:=by apply Sq<;>with_reducible assumption
 have a_age_read:vQ c:=by apply Ud<;>with_reducible assumption
 have a_block_read:vT c:=by apply Su<;>with_reducible assumption
 have a_known_at:vL c:=by apply Vm<;>with_reducible assumption
 have a_fields_of:ub c:=by apply Wm<;>with_reducible assumption
 have a_first_unknown:xb c:=by apply Nw<;>with_reducible assumption
 have a_can_lead:uU c:=by apply Xu<;>with_reducible assumption
 have a_wrong_word:sk c:=by apply Nd<;>with_reducible assumption
 have a_has_right_acts:wD c:=by apply PX<;>with_reducible assumption
 have a_is_blocks:vO c:=by apply Vi<;>with_reducible assumption
 have a_is_program:vE c:=by apply Sw<;>with_reducible assumption
 have a_is_programs:xk c:=by apply U0<;>with_reducible assumption
 have a_is_plan_notes:wN c:=by apply Py<;>with_reducible assumption
 have a_is_plan:xX c:=by apply YS<;>with_reducible assumption
 have a_aged_words:sX c:=by apply ZA<;>with_reducible assumption
 have a_shown_note:uP c:=by apply Qu<;>with_reducible assumption
 have a_shown_act:yL c:=by apply Mu<;>with_reducible assumption
 have a_shown_program:AY c:=by apply LL<;>with_reducible assumption
 have a_shown_plan:qj c:=by apply Y6<;>with_reducible assumption
 have a_lacks_block:sv c:=by apply WR<;>with_reducible assumption
 have a_can_stand:AD c:=by apply UT<;>with_reducible assumption
 have a_part_read:yS c:=by apply LZ<;>with_reducible assumption
 have a_can_begin:vq c:=by apply S8<;>with_reducible assumption
 have a_parts_read:yR c:=by apply LY<;>with_reducible assumption
 have a_tail_read:zX c:=by apply V8<;>with_reducible assumption
 have a_line_made:yr c:=by apply Nf<;>with_reducible assumption
 have a_line_read:wV c:=by apply Wk<;>with_reducible assumption
 have a_program_made:xQ c:=by apply VU<;>with_reducible assumption
 have a_refuse_wrong_block:AM c:=by apply Yg<;>with_reducible assumption
 have a_refuse_wrong:yJ c:=by apply Wx<;>with_reducible assumption
 have a_read_plan:nU c:=by apply Mh<;>with_reducible assumption
 have a__law_value:mZ c:=by apply Ox<;>with_reducible assumption
 have a__law_size:qi c:=by apply Oa<;>with_reducible assumption
 have a__law_age:rO c:=by apply NU<;>with_reducible assumption
 have a__law_pattern:yt c:=by apply OY<;>with_reducible assumption
 have a__law_template:zz c:=by apply NV<;>with_reducible assumption
 have a__law_term:zk c:=by apply Zx<;>with_reducible assumption
 have a__law_act:uX c:=by apply V4<;>with_reducible assumption
 have a__law_program:zr c:=by apply W9<;>with_reducible assumption
 have a__law_notes:vZ c:=by apply TV<;>with_reducible assumption
 have a__law_plan:BL c:=by apply LI<;>with_reducible assumption
 have a__law_field_word:vN c:=by apply Wt<;>with_reducible assumption
 have a__law_act_line:xF c:=by apply MJ<;>with_reducible assumption
 have a__law_lines:vi c:=by apply Ue<;>with_reducible assumption
 have a__law_other_in:xI c:=by apply Zu<;>with_reducible assumption
 have a__law_there_and_back:BG c:=by apply MV<;>with_reducible assumption
 have a__law_parts_right:yQ c:=by apply Uz<;>with_reducible assumption
 apply Sy<;>with_reducible assumption
theorem all_K(w:B5)(mg)(fa)(h:Heap)(X:(KK w.params).In h)(G:h.Ns Dz mg)(hfa:mg "law"=ae (.ref fa)):
  ∃fd:C1,(∀(s:Ao)(u:Aj),BindsTo s fd ⟨[u],[]⟩ [("_law_script",u)])/\∀base:Heap,(KK w.params).In base->base.Ns Dz mg->FnOk pR w (KK w.params) mg base dy 15 fa fd Ze (DL.spLaw (KK w.params)):=by
 have e:=hfa.symm.trans (Hq X G 85 ⟨115,"law",988,460,1,595,ah,997,6⟩ rfl).1.2;cases e;exact⟨lY ⟨115,"law",988,460,1,595,ah,997,6⟩,λs v=>.of_eq rfl,λbase _ _=>YM ⟨pR,w,KK w.params,mg,base⟩ (λj d e=>Hq X G j d e) (zK X G) (Ci X G (by kernel_rfl)) (Ci X G (by kernel_rfl)) (Ci X G (by kernel_rfl)) (Ci X G (by kernel_rfl)) (Ci X G (by kernel_rfl)) (Ci X G (by kernel_rfl)) (Ci X G (by kernel_rfl)) (Ci X G (by kernel_rfl)) (Ci X G (by kernel_rfl)) (Ci X G (by kernel_rfl)) (Ci X G (by kernel_rfl)) (Ci X G (by kernel_rfl)) (Ci X G (by kernel_rfl)) (Ci X G (by kernel_rfl)) (λH=>.inr ⟨_,_,_,(show(KK w.params).lookup 366=ae (oT "tuple" (.seq #[(.str "lay" 652),(.str "take" 653),(.str "read" 654),(.str "look" 655),(.str "same" 656),(.str "go" 657)] 0)) by kernel_rfl),rfl,rfl,show 6<=A6 by decide,(.cons ⟨_,rfl⟩ (.cons ⟨_,rfl⟩ (.cons ⟨_,rfl⟩ (.cons ⟨_,rfl⟩ (.cons ⟨_,rfl⟩ (.cons ⟨_,rfl⟩ .nil))))))⟩) (Ci X G (by kernel_rfl)) (λH=>.inr ⟨_,_,_,(show(KK w.params).lookup 367=ae (oT "tuple" (.seq #[(.str "note" 659),(.str "lay" 660)] 0)) by kernel_rfl),rfl,rfl,show 2<=A6 by decide,(.cons ⟨_,rfl⟩ (.cons ⟨_,rfl⟩ .nil))⟩) (Ci X G (by kernel_rfl)) (λH=>.inr ⟨_,_,_,(show(KK w.params).lookup 299=ae (oT "tuple" (.seq #[(.str "take" 556),(.str "read" 557),(.str "look" 558)] 0)) by kernel_rfl),rfl,rfl,show 3<=A6 by decide,(.cons ⟨_,rfl⟩ (.cons ⟨_,rfl⟩ (.cons ⟨_,rfl⟩ .nil)))⟩) (Ci X G (by kernel_rfl)) (λH=>.inr ⟨_,_,_,(show(KK w.params).lookup 300=ae (oT "tuple" (.seq #[(.str "look" 560),(.str "same" 561),(.str "go" 562)] 0)) by kernel_rfl),rfl,rfl,show 3<=A6 by decide,(.cons ⟨_,rfl⟩ (.cons ⟨_,rfl⟩ (.cons ⟨_,rfl⟩ .nil)))⟩) (Ci X G (by kernel_rfl)) ⟨by decide,_,_,_,(show(KK w.params).lookup 236=ae (oT "dict" (.dict #[(eN w.params "any" 457 (.str "?" 458)),(eN w.params "word" 459 (.str "$" 460)),(eN w.params "number" 461 (.str "#" 462))] 3)) by kernel_rfl),⟨rfl,rfl,rfl⟩,rfl,(.cons rfl ⟨_,rfl⟩ (.cons rfl ⟨_,rfl⟩ (.cons rfl ⟨_,rfl⟩ .nil)))⟩ (Ci X G (by kernel_rfl)) ⟨by decide,_,_,_,(show(KK w.params).lookup 237=ae (oT "dict" (.dict #[(eN w.params "bind" 467 (.str "?" 468)),(eN w.params "as" 469 (.str "=" 470)),(eN w.params "next" 471 (.str "+" 472))] 3)) by kernel_rfl),⟨rfl,rfl,rfl⟩,rfl,(.cons rfl ⟨_,rfl⟩ (.cons rfl ⟨_,rfl⟩ (.cons rfl ⟨_,rfl⟩ .nil)))⟩ (Ci X G (by kernel_rfl)) ⟨by decide,_,_,_,(show(KK w.params).lookup 368=ae (oT "dict" (.dict #[(eN w.params "note" 662 (.int 1 663)),(eN w.params "hand" 664 (.int 0 665)),(eN w.params "block" 666 (.int 0 667)),(eN w.params "lay" 668 (.int 1 669)),(eN w.params "take" 670 (.int 1 671)),(eN w.params "read" 672 (.int 1 673)),(eN w.params "look" 674 (.int 1 675)),(eN w.params "same" 676 (.int 2 677)),(eN w.params "go" 678 (.int 0 679))] 9)) by kernel_rfl),⟨rfl,rfl,rfl⟩,rfl,(.cons rfl ⟨_,rfl⟩ (.cons rfl ⟨_,rfl⟩ (.cons rfl ⟨_,rfl⟩ (.cons rfl ⟨_,rfl⟩ (.cons rfl ⟨_,rfl⟩ (.cons rfl ⟨_,rfl⟩ (.cons rfl ⟨_,rfl⟩ (.cons rfl ⟨_,rfl⟩ (.cons rfl ⟨_,rfl⟩ .nil)))))))))⟩ (HF [("any",457,(.str "?" 458)),("word",459,(.str "$" 460)),("number",461,(.str "#" 462))] ∎ (show(KK w.params).lookup 236=ae (oT "dict" (.dict #[(eN w.params "any" 457 (.str "?" 458)),(eN w.params "word" 459 (.str "$" 460)),(eN w.params "number" 461 (.str "#" 462))] 3)) by kernel_rfl) ⟨rfl,rfl,rfl⟩ rfl rfl ∅) (HF [("bind",467,(.str "?" 468)),("as",469,(.str "=" 470)),("next",471,(.str "+" 472))] ∎ (show(KK w.params).lookup 237=ae (oT "dict" (.dict #[(eN w.params "bind" 467 (.str "?" 468)),(eN w.params "as" 469 (.str "=" 470)),(eN w.params "next" 471 (.str "+" 472))] 3)) by kernel_rfl) ⟨rfl,rfl,rfl⟩ rfl rfl ∅)⟩
theorem walk{l:PySem.W.OpenLaw}{K:Params->Ag}(hn:l.most=ae 63)(hdf:d.params.defaults=[])
  (hY:∀(w:B5)(h:Heap),YP w h->(K w.params).In h)
  (F:∀(w:B5)(mg:Str->Option Aj)(fa:Addr)(h:Heap),(K w.params).In h->h.Ns Dz mg->mg d.name=ae (.ref fa)->
   ∃fd:C1,(∀(s:Ao)(u:Aj),BindsTo s fd ⟨[u],[]⟩ [("_law_script",u)])/\∀base:Heap,(K w.params).In base->base.Ns Dz mg->FnOk l.prog w (K w.params) mg base dy 15 fa fd Ze (DL.spLaw (K w.params))):
  PySem.W.WalkO q loose XP YP l.row.toRowW d [] (λf vs=>PySem.call f vs):=
 L2.walk_of (n:=63) (k:=15) (x:="_law_script") (CX:=λ_=>dy) (sp:=λw=>DL.spLaw (K w.params)) hn ∎ hdf ⟨rfl,by decide,by decide,rfl⟩ hY F (λ_ _ a ns hl _ hS=>⟨a,ns,rfl,hS,hl,λ_=>rfl⟩) λ_ _ _ _ _ z=>z
end Nb
open PySem PySem.W PyProof.Rows
set_option maxRecDepth 100000 in
set_option maxHeartbeats 0 in
theorem PySem.Challenge.cw_noteboard_k15_whole_texts_there_and_back_holds : PySem.Challenge.rw_noteboard_k15_whole_texts_there_and_back.Holds := by
 refine holds_law Nb.said_ λsaid=>?_;refine holds_open (q:=Nb.qq) (loose:=Nb.lO) (Xt:=Nb.xT) (XP:=XL Nb.qq []) (Yf:=Hook.obs Nb.hK) (Ya:=Hook.val Nb.hK) (YP:=Hook.says Nb.hK) (d:=Nb.dW) (kwd:=[]) (N:=6000) Nb.left_ (Hook.of Nb.hK) (Hook.keeps Nb.hK) (λs e=>xl_of s (Bool.and_eq_true_iff.mp e).1) XL.keeps (by kernel_rfl) (by kernel_rfl) (by kernel_rfl) (λs e=>recFacts_of (Bool.and_eq_true_iff.mp e).2) (by kernel_rfl) said (by decide +kernel) ⟨rfl,rfl,rfl,rfl,rfl,by decide +kernel⟩ ?hw ?hc
 (case hw=>w_witness2)
 exact Nb.walk (l:=PySem.Challenge.rw_noteboard_k15_whole_texts_there_and_back) (by kernel_rfl) (by kernel_rfl) (λw h Y=>kIn_of Y) Nb.all_K
